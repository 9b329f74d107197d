import Derived.Test.YthlincikgdblfaaGreatV33
import Derived.Test.YthlincikgdblfaaGreatAl04
import Derived.Test.YthlincikgdblfaaGreatAl05
import Derived.Deep.RegionHeld
import Derived.Test.YthlincikgdblfaaGreatV30
namespace Go.Proofs.YthlincikgdblfaaGreat
set_option linter.unusedVariables false
namespace Rot
theorem pl_at (f : Nat → Bool) (I : Nat) (hf : f I = true) : ∀ m, I < m → ((List.range m).filter f)[((List.range I).filter f).length]? = some I
  | 0, h => absurd h (Nat.not_lt_zero _)
  | m + 1, h => by
    rw [List.range_succ, List.filter_append]
    by_cases e : I = m
    · subst e
      rw [List.getElem?_append_right (Nat.le_refl _), Nat.sub_self]
      simp [hf]
    · have ih := pl_at f I hf m (by omega)
      rw [List.getElem?_append_left (List.getElem?_eq_some_iff.1 ih).1]
      exact ih
theorem pl_lt (f : Nat → Bool) (I : Nat) (hf : f I = true) (m : Nat) (h : I < m) : ((List.range I).filter f).length < ((List.range m).filter f).length := (List.getElem?_eq_some_iff.1 (pl_at f I hf m h)).1
theorem pl_succ (f : Nat → Bool) (I : Nat) : ((List.range (I + 1)).filter f).length = ((List.range I).filter f).length + if f I = true then 1 else 0 := by
  rw [List.range_succ, List.filter_append, List.length_append]
  by_cases h : f I = true
  · simp [h]
  · simp [h]
end Rot
open Go.RowKit
theorem Lst.cell {w : World} {B g n c : Nat} {d : List Nat} (h : Lst w B (.slice (some ⟨g, 0, none⟩) n c) d) (j : Nat) (hj : j < d.length) : w.cell? ⟨g, j, none⟩ = some (.int .i64 ((d[j]'hj : Nat) : Int)) := by
  obtain ⟨g', cap, full, hv, hI, ht⟩ := h
  cases hv
  have hjf : j < full.length := by
    have := congrArg List.length ht
    rw [List.length_take] at this
    omega
  have e : full[j]'hjf = d[j]'hj := by
    have : full[j]? = d[j]? := by rw [← ht, List.getElem?_take_of_lt hj]
    rw [List.getElem?_eq_getElem hjf, List.getElem?_eq_getElem hj] at this
    exact Option.some.inj this
  rw [Is.cell hI j hjf, e]
theorem extract_any (t : ByteArray) (i k : Nat) : (t.extract i (i + k)).toList = (t.data.toList.drop i).take k := by
  rw [ByteArray.toList_eq, ByteArray.data_extract]
  simp
/-- Behind I places of stands. -/
def StaV (f : Nat → Bool) (m : Nat) (w2 : World) (kv iv : Value) (wr : World) : Prop := ∃ I k : Nat, I ≤ m ∧ iv = .int .i64 (I : Int) ∧ kv = .int .i64 (k : Int) ∧ k ≤ I ∧ wr = w2 ∧ Hid (k = ((List.range I).filter f).length)
theorem StaV.mk {f : Nat → Bool} {m : Nat} {w2 wr : World} {kv iv : Value} (I k : Nat) (h1 : I ≤ m) (h2 : iv = .int .i64 (I : Int)) (h3 : kv = .int .i64 (k : Int)) (h4 : k ≤ I) (h5 : wr = w2) (h6 : k = ((List.range I).filter f).length) : StaV f m w2 kv iv wr := ⟨I, k, h1, h2, h3, h4, h5, h6⟩
set_option maxRecDepth 100000 in
set_option maxHeartbeats 1000000 in
theorem stands_any (B x : Nat) (s : List UInt8) (t : ByteArray) (r : Nat) (p : ByteArray) (most : Nat) (w : World) (h : Idx B w x s t.data.toList r) (hp : p.size ≤ 9223372036854775807) (hm : most ≤ 1000) :
    Calls Tryz.prog 22 #[.pointer (some ⟨x, 0, none⟩), .string t, .string p, .int .i64 most] w fun e w' => e = .returned (.bool true) ∧ w.grownBy w' none := by
  have htl : t.data.toList.length = t.size := by simp
  have hpl : p.data.toList.length = p.size := by simp
  have ht : t.size ≤ 250 := by have := h.1.1; omega
  have hcc := count_idx B x s _ r p w h (by unfold maxLen; omega)
  have HX := hide h
  have hPl : (Rot.placesIn t.data.toList p.data.toList).length ≤ 251 := by have := places_le t.data.toList p.data.toList; omega
  have HP : Hid (Rot.placesIn t.data.toList p.data.toList = (List.range (t.size + 1 - p.size)).filter (Rot.stands t.data.toList p.data.toList)) := by unfold Rot.placesIn; rw [htl, hpl]; exact rfl
  clear h
  go_enter Tryz.func22, Tryz.ntmps22
  go_wp2_with fail
  refine hcc.mono ?_
  rintro e w1 ⟨rfl, j, hw1⟩
  have HG1 : Hid (w.grownBy w1 none) := by rw [hw1]; exact grown_drewN (World.grownBy.refl _ _) j
  have hlo := locate_yes B x s _ r p most w1 ((unhide HX).grown (unhide HG1)) (by unfold maxLen; omega) (by omega)
  clear hcc hw1 HX
  generalize hpi : Rot.placesIn t.data.toList p.data.toList = PL at hlo hPl HP ⊢
  clear hpi
  go_wp2_with fail
  refine hlo.mono ?_
  rintro e w2 ⟨v, rfl, hL, hG2⟩
  have HG2 := hide (grown_trans (unhide HG1) hG2 (Or.inl rfl))
  have HL := hide hL
  obtain ⟨g, cap, full, rfl, _, _⟩ := hL
  clear hlo hG2 HG1
  have hll : (PL.take most).length = min most PL.length := List.length_take
  have hlc := fun j hj => Lst.cell (unhide HL) j hj
  generalize hcq : PL.take most = cl at hll hlc HL ⊢
  have HCQ := hide hcq
  generalize hlq : cl.length = L at hll ⊢
  have HLQ := hide hlq
  clear hcq hlq
  have hLb : L ≤ 1000 := by omega
  have HLC := hide hlc
  have HLL := hide hll
  clear hlc HL hll
  go_wp2_with fail
  go_loopw [12, 13] (fun kv iv wr => StaV (Rot.stands t.data.toList p.data.toList) (t.size + 1 - p.size) w2 kv iv wr) (fun _ iv _ => t.size + 1 - (intOf iv).toNat)
  case atStart => exact StaV.mk 0 0 (by omega) rfl rfl (by omega) rfl rfl
  case round =>
    obtain ⟨I, k, hI, rfl, rfl, hkI, hwr, HK⟩ := hrel
    subst hwr
    by_cases hlt : I + p.size ≤ t.size
    · have dl : decide ((I : Int) + (p.size : Int) ≤ (t.size : Int)) = true := by simp; omega
      have hbe : ((t.extract I (I + p.size)).toList == p.toList) = Rot.stands t.data.toList p.data.toList I := by
        rw [extract_any]
        unfold Rot.stands
        rw [hpl, ByteArray.toList_eq]
      have HS1 := hide (Rot.pl_succ (Rot.stands t.data.toList p.data.toList) I)
      have HAT := hide (fun hf => Rot.pl_at (Rot.stands t.data.toList p.data.toList) I hf (t.size + 1 - p.size) (by omega))
      cases hst : Rot.stands t.data.toList p.data.toList I with
      | false =>
        rw [hst] at hbe HS1
        have HK2 : Hid (k = ((List.range (I + 1)).filter (Rot.stands t.data.toList p.data.toList)).length) := by
          rw [unhide HS1, ← unhide HK]
          rfl
        clear hst HAT HS1 HK
        go_wp2_with fail
        go_roundw
        case rel => first | exact StaV.mk (I + 1) k (by omega) (by go_num) rfl (by omega) rfl (unhide HK2) | (repeat apply Exists.intro; refine ⟨?_, rfl⟩; exact StaV.mk (I + 1) k (by omega) (by go_num) rfl (by omega) rfl (unhide HK2))
        case measure => first | (simp [intOf]; done) | (simp [intOf]; omega)
      | true =>
        have hat := unhide HAT hst
        rw [hst] at hbe HS1
        have HK2 : Hid (k + 1 = ((List.range (I + 1)).filter (Rot.stands t.data.toList p.data.toList)).length) := by
          rw [unhide HS1, ← unhide HK]
          rfl
        rw [← unhide HK, ← unhide HP] at hat
        have hkl := (List.getElem?_eq_some_iff.1 hat).1
        by_cases hkm : k < most
        · have hkL : k < L := by rw [unhide HLL]; omega
          have hcell := unhide HLC k (by rw [unhide HLQ]; exact hkL)
          have hIv : cl[k]'(by rw [unhide HLQ]; exact hkL) = I := by
            have e : cl[k]? = PL[k]? := by rw [← unhide HCQ, List.getElem?_take_of_lt hkm]
            rw [hat, List.getElem?_eq_getElem (by rw [unhide HLQ]; exact hkL)] at e
            exact Option.some.inj e
          rw [hIv] at hcell
          have d1 : decide ((k : Int) < (most : Int)) = true := by simp; omega
          have d2 : decide ((L : Int) ≤ (k : Int)) = false := by simp; omega
          clear hst HAT HS1 HK hat hIv
          go_wp2_with fail
          go_roundw
          case rel => first | exact StaV.mk (I + 1) (k + 1) (by omega) (by go_num) (by go_num) (by omega) rfl (unhide HK2) | (repeat apply Exists.intro; refine ⟨?_, rfl⟩; exact StaV.mk (I + 1) (k + 1) (by omega) (by go_num) (by go_num) (by omega) rfl (unhide HK2))
          case measure => first | (simp [intOf]; done) | (simp [intOf]; omega)
        · have d1 : decide ((k : Int) < (most : Int)) = false := by simp; omega
          clear hst HAT HS1 HK hat
          go_wp2_with fail
          go_roundw
          case rel => first | exact StaV.mk (I + 1) (k + 1) (by omega) (by go_num) (by go_num) (by omega) rfl (unhide HK2) | (repeat apply Exists.intro; refine ⟨?_, rfl⟩; exact StaV.mk (I + 1) (k + 1) (by omega) (by go_num) (by go_num) (by omega) rfl (unhide HK2))
          case measure => first | (simp [intOf]; done) | (simp [intOf]; omega)
    · have dl : decide ((I : Int) + (p.size : Int) ≤ (t.size : Int)) = false := by simp; omega
      have eI : I = t.size + 1 - p.size := by omega
      have hk : k = PL.length := by rw [unhide HK, unhide HP, eI]
      have hkp : I + p.size ≤ 9223372036854775807 := by omega
      have hLk : L = min most k := by rw [unhide HLL, hk]
      have HKP := hide hk
      have hkk : ((PL.length : Int) == (k : Int)) = true := by simp [hk]
      clear HK HP HLC HCQ HLQ HLL eI hk
      by_cases hmk : most < k
      · have d1 : decide ((most : Int) < (k : Int)) = true := by simp; omega
        have hLm : ((L : Int) == (most : Int)) = true := by simp; omega
        clear hLk
        go_wp2_with fail
        go_ret
        exact ⟨rfl, unhide HG2⟩
      · have d1 : decide ((most : Int) < (k : Int)) = false := by simp; omega
        have hLm : ((L : Int) == (k : Int)) = true := by simp; omega
        clear hLk
        go_wp2_with fail
        go_ret
        exact ⟨rfl, unhide HG2⟩
set_option maxRecDepth 100000 in
set_option maxHeartbeats 2000000 in
theorem found_walk (a0 : ByteArray) (a1 : Int) (p2 : ByteArray) (a3 a4 a5 : Int) (h0 : a0.size ≤ maxLen) (h1 : -9223372036854775808 ≤ a1 ∧ a1 ≤ 9223372036854775807) (h2 : p2.size ≤ 140737488351232) (h3 : -9223372036854775808 ≤ a3 ∧ a3 ≤ 9223372036854775807) (h4 : -9223372036854775808 ≤ a4 ∧ a4 ≤ 9223372036854775807) (h5 : -9223372036854775808 ≤ a5 ∧ a5 ≤ 9223372036854775807) (w : World) :
    Calls Tryz.prog 9 #[.string a0, .int .i64 a1, .string p2, .int .i64 a3, .int .i64 a4, .int .i64 a5] w fun e w' => e = .returned (.bool true) ∧ Below w.heap.size w w' := by
  have hcs := cut_size a0
  have hr := isRate_rateOf a1
  have K0 := hide (fun W => cut_any a0 W h0)
  have K1 := hide (fun W => krate_any a1 W h1.1 h1.2)
  have K2 := hide (fun W => built_any (cutOf a0) (rateOf a1) W hcs hr)
  generalize cutOf a0 = t at *
  generalize rateOf a1 = r at *
  have htl : t.data.toList.length = t.size := by simp
  have ha := pick_lt a3 (t.size + 1) (by omega)
  have KA : Hid (∀ W, Calls Tryz.prog 19 #[.int .i64 a3, .int .i64 ((t.size : Int) + 1)] W fun e w' => e = .returned (.int .i64 (pickOf a3 (t.size + 1) : Int)) ∧ w' = W) := hide (fun W => kpick_any a3 (t.size + 1) W h3.1 h3.2 (by omega) (by omega))
  generalize pickOf a3 (t.size + 1) = A at ha KA
  have hq := pick_lt a4 (t.size - A + 1) (by omega)
  have KB : Hid (∀ W, Calls Tryz.prog 19 #[.int .i64 a4, .int .i64 ((t.size : Int) - (A : Int) + 1)] W fun e w' => e = .returned (.int .i64 (pickOf a4 (t.size - A + 1) : Int)) ∧ w' = W) := by
    intro W
    have e : ((t.size : Int) - (A : Int) + 1) = ((t.size - A + 1 : Nat) : Int) := by omega
    rw [e]
    exact kpick_any a4 (t.size - A + 1) W h4.1 h4.2 (by omega) (by omega)
  generalize pickOf a4 (t.size - A + 1) = q at hq KB
  have hM := pick_lt a5 300 (by decide)
  have KM := hide (fun W => kpick_any a5 300 W h5.1 h5.2 (by decide) (by decide))
  generalize pickOf a5 300 = M at hM KM
  have HR := hide hr
  clear hr h0 h1 h3 h4 h5
  go_enter Tryz.func9, Tryz.ntmps9
  go_wp2_with fail
  refine (unhide K0 _).mono ?_
  rintro e w1 ⟨rfl, hw⟩
  replace hw := hw.symm
  subst hw
  go_wp2_with fail
  refine (unhide K1 _).mono ?_
  rintro e w1 ⟨rfl, hw⟩
  replace hw := hw.symm
  subst hw
  go_wp2_with fail
  refine (unhide K2 _).mono ?_
  rintro e w1 ⟨rows, hR, rfl, hB⟩
  have hf := built_file hcs (unhide HR) hR
  generalize (⟨(Rot.fileOf t.data.toList rows r).toArray⟩ : ByteArray) = S at hf ⊢
  have hsrc := src_new w1 S _ _ (ints_nil w1) (fun a n c e => by cases e)
  have hld := load_file w1.heap.size S _ _ t.data.toList r _ hsrc (fun a n c e => by cases e) hf (by simp)
  have HB : Hid (Below w.heap.size w (w1.alloc (.cells #[.string S, .slice none 0 0, .int .i64 0] 37))) := hB.alloc hB.size _
  have hle1 : w.heap.size ≤ w1.heap.size := hB.size
  clear hR hf hB hsrc K0 K1 K2
  go_wp2_with fail
  refine hld.mono ?_
  rintro e w2 ⟨p, k, rfl, hS2, hG2, hidx⟩
  have HB2 : Hid (Below w.heap.size w w2) := (unhide HB).grown hG2 (unhide HB).size (fun k e => by injection e; omega)
  have HX2 := hide hidx
  clear hld hS2 hG2 hidx HB
  go_wp2_with fail
  refine (unhide KA _).mono ?_
  rintro e w3 ⟨rfl, hw⟩
  replace hw := hw.symm
  subst hw
  go_wp2_with fail
  refine (unhide KB _).mono ?_
  rintro e w3 ⟨rfl, hw⟩
  replace hw := hw.symm
  subst hw
  go_wp2_with fail
  refine (unhide KM _).mono ?_
  rintro e w3 ⟨rfl, hw⟩
  replace hw := hw.symm
  subst hw
  have hst := stands_any _ p _ t r p2 M w2 (unhide HX2) (by omega) (by omega)
  go_wp2_with fail
  refine hst.mono ?_
  rintro e w3 ⟨rfl, hG⟩
  have HX3 := hide ((unhide HX2).grown hG)
  have HB3 := hide (below_on (unhide HB2) hG (Nat.le_refl _))
  clear hst hG HX2 HB2
  have hxs : (t.extract A (A + q)).size ≤ 250 := by rw [ByteArray.size_extract]; omega
  have hst := stands_any _ p _ t r (t.extract A (A + q)) M (w3.drewN 1) ((unhide HX3).grown (grown_drewN (World.grownBy.refl _ _) 1)) (by omega) (by omega)
  go_wp2_with fail
  go_cut [21] (fun sv wx => sv = .bool true ∧ (w3.drewN 1).grownBy wx none)
  case first =>
    go_region_with (first
      | (go_at_call 19; refine (unhide KM _).mono ?_; rintro e w9 ⟨rfl, rfl⟩)
      | (go_at_call 22; refine hst.mono ?_; rintro e w9 ⟨rfl, hG⟩))
    all_goals
      go_wp2_with fail
      go_meet
      exact ⟨rfl, hG⟩
  case rest =>
  obtain ⟨rfl, hG⟩ := hcut
  have HX4 := hide ((unhide HX3).grown (grown_trans (grown_drewN (World.grownBy.refl w3 none) 1) hG (Or.inl rfl)))
  have HB4 := hide (below_on (unhide HB3) (grown_trans (grown_drewN (World.grownBy.refl w3 none) 1) hG (Or.inl rfl)) (Nat.le_refl _))
  clear hst hG HX3 HB3
  have hst := stands_any _ p _ t r (t.extract A (A + q) ++ p2) 300 wc (unhide HX4) (by rw [ByteArray.size_append]; omega) (by omega)
  go_wp2_with fail
  refine hst.mono ?_
  rintro e w5 ⟨rfl, hG⟩
  have HX5 := hide ((unhide HX4).grown hG)
  have HB5 := hide (below_on (unhide HB4) hG (Nat.le_refl _))
  clear hst hG HX4 HB4
  go_wp2_with fail
  refine (unhide KM _).mono ?_
  rintro e w6 ⟨rfl, hw⟩
  replace hw := hw.symm
  subst hw
  have hst := stands_any _ p _ t r p2 M w5 (unhide HX5) (by omega) (by omega)
  go_wp2_with fail
  refine hst.mono ?_
  rintro e w6 ⟨rfl, hG⟩
  have HX6 := hide ((unhide HX5).grown hG)
  have HB6 := hide (below_on (unhide HB5) hG (Nat.le_refl _))
  clear hst hG HX5 HB5
  have hst := stands_any _ p _ t r ⟨#[]⟩ 300 w6 (unhide HX6) (by decide) (by omega)
  go_wp2_with fail
  refine hst.mono ?_
  rintro e w7 ⟨rfl, hG⟩
  have HX7 := hide ((unhide HX6).grown hG)
  have HB7 := hide (below_on (unhide HB6) hG (Nat.le_refl _))
  clear hst hG HX6 HB6
  have hlo := locate_no _ p _ _ r p2 (-1) w7 (unhide HX7) (by decide)
  go_wp2_with fail
  refine hlo.mono ?_
  rintro e w8 ⟨rfl, hw⟩
  subst hw
  clear hlo
  go_wp2_with fail
  go_ret
  exact ⟨rfl, unhide HB7⟩
end Go.Proofs.YthlincikgdblfaaGreat

namespace Go.Proofs.YthlincikgdblfaaGreat
set_option linter.unusedVariables false
open Go.RowKit

theorem ownsRow_mono {w : World} {B B' : Nat} {e : TypeId} {size : Nat} {v : Value} {n : Nat} {xs : List Value} (h : w.ownsRow B e size v n xs) (hB : B' ≤ B) : w.ownsRow B' e size v n xs := by
  obtain ⟨h1, h2⟩ := h
  refine ⟨h1, h2.imp id ?_⟩
  rintro ⟨g, cap, cur, hv, hb, hr⟩
  exact ⟨g, cap, cur, hv, Nat.le_trans hB hb, hr⟩
/-- Nothing of the script's world has changed. -/
theorem Av.below {g : Nat} {w w' : World} {v : Value} {ps : List Pr} {lv mv : Value} {ls : List (Value × Int)} (h : Av g w v ps lv mv ls) (H : Below w.heap.size w w') : Av g w' v ps lv mv ls := by
  have hg := h.wv.lt
  exact ⟨(h.wv.below H).1, (H.cell (p := ⟨g, 1, none⟩) hg).trans h.c1, (H.cell (p := ⟨g, 2, none⟩) hg).trans h.c2, (H.frozen (p := ⟨g, 1, none⟩) hg).trans h.f1, (H.frozen (p := ⟨g, 2, none⟩) hg).trans h.f2, ownsRow_below h.lrow H (fun i e => (World.ownsRow.lt h.lrow i e).2), ownsRow_below h.mrow H (fun i e => (World.ownsRow.lt h.mrow i e).2), fun x hx => (h.each x hx).step (Keeps.below H) (fun _ _ h => h), h.apv, h.apl⟩
theorem av_same {g : Nat} {w w' : World} {v : Value} {ps : List Pr} {lv mv : Value} {ls : List (Value × Int)} (h : Av g w v ps lv mv ls) (H : Below w.heap.size w w') : ∃ lv' mv' ls', Av g w' v ps lv' mv' ls' ∧ ls'.length ≤ ls.length + 4 ∧ Below g w w' := ⟨lv, mv, ls, h.below H, by omega, H.mono (Nat.le_of_lt h.wv.lt)⟩
theorem Lst.ints {w : World} {B : Nat} {v : Value} {d : List Nat} (h : Lst w B v d) (hd : ∀ x ∈ d, x ≤ 1000) (hl : d.length ≤ 1000) : Ints w v (d.map fun (n : Nat) => (n : Int)) := by
  have h' := h
  obtain ⟨gx, cap, full, rfl, hI, ht⟩ := h
  refine ⟨?_, by simp; omega, some ⟨gx, 0, none⟩, d.length, by simp, Or.inr ⟨gx, 0, rfl, fun i hi => ?_⟩⟩
  · intro z hz
    obtain ⟨x, hx, rfl⟩ := List.mem_map.1 hz
    have := hd x hx
    omega
  · have hi2 : i < d.length := by simpa using hi
    rw [Nat.zero_add, Lst.cell h' i hi2]
    simp
theorem places_small (t p : List UInt8) (ht : t.length ≤ 250) (m : Nat) : (∀ x ∈ (Rot.placesIn t p).take m, x ≤ 1000) ∧ ((Rot.placesIn t p).take m).length ≤ 1000 := by
  refine ⟨fun x hx => ?_, ?_⟩
  · have := ((Rot.mem_places t p x).1 (List.mem_of_mem_take hx)).1
    omega
  · have := places_le t p
    rw [List.length_take]
    omega
set_option maxRecDepth 100000 in
set_option maxHeartbeats 2000000 in
theorem step_locate (s : ByteArray) (a k b : Int) (lv : Value) (g : Nat) (v : Value) (ps : List Pr) (lv0 mv0 : Value) (ls : List (Value × Int)) (w : World) (hAv : Av g w v ps lv0 mv0 ls) (hls : ls.length ≤ 7900000000000) (hab : -9223372036854775808 ≤ a ∧ a ≤ 9223372036854775807) (hk : -9223372036854775808 ≤ k ∧ k ≤ 9223372036854775807) (hs : s.size ≤ 140737488351232) (hps : ps.length ≤ 4611686018427387904) :
    Calls Tryz.prog 24 #[.pointer (some ⟨g, 0, none⟩), .agg #[.int .i64 8, .int .i64 k, .string s, .int .i64 a, .int .i64 b, lv]] w fun en w' => en = .returned (.bool true) ∧ ∃ lv' mv' ls', Av g w' v ps lv' mv' ls' ∧ ls'.length ≤ ls.length + 4 ∧ Below g w w' := by
  have hW := hAv.wv
  have HAV := hide hAv
  clear hAv
  have HB0 : Hid (Below w.heap.size w (w.alloc (.cells #[.int .i64 8, .int .i64 k, .string s, .int .i64 a, .int .i64 b, lv] 58))) := Below.alloc0 _
  obtain ⟨hW1, _⟩ := hW.below (unhide HB0)
  have HW := hide hW
  obtain ⟨va, m, vc, rfl, hm, hsh⟩ := hW1.shape
  have z0 := hW1.c0
  have HM := hide hm
  by_cases hm0 : m = 0
  · subst hm0
    clear hW1 hsh hm hW
    go_enter Tryz.func24, Tryz.ntmps24
    go_wp2_with fail
    go_ret
    exact ⟨rfl, av_same (unhide HAV) (unhide HB0)⟩
  rcases hsh with h0 | ⟨gi, rfl, hcells⟩
  · exact absurd h0 hm0
  have hpk := fun W => lpick_any k m W hk.1 hk.2 (by omega) (by omega)
  have hpl := pick_lt k m (by omega)
  generalize pickOf k m = i at hpk hpl
  have hip : i < ps.length := by omega
  obtain ⟨y0, y1⟩ := hcells i hip
  have hQ := hW1.ok _ (List.getElem_mem hip)
  generalize ps[i]'hip = q at y0 y1 hQ
  have HQ := hide hQ
  have hme : ((m : Int) == 0) = false := by simp; omega
  have o0 := cells_new8 w [.int .i64 8, .int .i64 k, .string s, .int .i64 a, .int .i64 b, lv] 58 0 (by simp)
  have o1 := cells_new8 w [.int .i64 8, .int .i64 k, .string s, .int .i64 a, .int .i64 b, lv] 58 1 (by simp)
  have o2 := cells_new8 w [.int .i64 8, .int .i64 k, .string s, .int .i64 a, .int .i64 b, lv] 58 2 (by simp)
  have o3 := cells_new8 w [.int .i64 8, .int .i64 k, .string s, .int .i64 a, .int .i64 b, lv] 58 3 (by simp)
  have o4 := cells_new8 w [.int .i64 8, .int .i64 k, .string s, .int .i64 a, .int .i64 b, lv] 58 4 (by simp)
  have hsz1 : (w.alloc (.cells #[.int .i64 8, .int .i64 k, .string s, .int .i64 a, .int .i64 b, lv] 58)).heap.size = w.heap.size + 1 := by simp
  have him : i < m := hpl
  clear hcells hQ hW1 hm hW hip
  go_enter Tryz.func24, Tryz.ntmps24
  go_upto_region 16 with fail
  generalize w.alloc (.cells #[.int .i64 8, .int .i64 k, .string s, .int .i64 a, .int .i64 b, lv] 58) = w1 at z0 y0 y1 o0 o1 o2 o3 o4 HB0 HQ hsz1 ⊢
  have HSZ1 := hide hsz1
  simp only [List.getElem_cons_zero, List.getElem_cons_succ] at o0 o1 o2 o3 o4
  have y0a := (World.cell?_alloc_lt _ (.cells #[.pointer none, .pointer none] 87) _ (World.block_lt_of_cell? _ _ y0)).trans y0
  have y1a := (World.cell?_alloc_lt _ (.cells #[.pointer none, .pointer none] 87) _ (World.block_lt_of_cell? _ _ y1)).trans y1
  have z0a := (World.cell?_alloc_lt _ (.cells #[.pointer none, .pointer none] 87) _ (World.block_lt_of_cell? _ _ z0)).trans z0
  have o1a := (World.cell?_alloc_lt _ (.cells #[.pointer none, .pointer none] 87) _ (World.block_lt_of_cell? _ _ o1)).trans o1
  clear hsz1
  go_cut [13] (fun bv wx => ∃ pb, bv = .pointer (some ⟨pb, 0, none⟩) ∧ Below w1.heap.size w1 wx ∧ wx.cell? ⟨pb, 0, none⟩ = some (.pointer (some ⟨q.p, 0, none⟩)) ∧ wx.cell? ⟨pb, 1, none⟩ = some (.pointer (some ⟨q.g, 0, none⟩)))
  case first =>
    go_region_held (fun w' => w'.cell? ⟨g, 0, none⟩ = some (.slice (some ⟨gi, 0, none⟩) m vc) ∧ w'.cell? ⟨w.heap.size, 1, none⟩ = some (.int .i64 k) ∧ w'.cell? ⟨gi, i * 2, none⟩ = some (.pointer (some ⟨q.p, 0, none⟩)) ∧ w'.cell? ⟨gi, i * 2 + 1, none⟩ = some (.pointer (some ⟨q.g, 0, none⟩))) (simp [*, World.cell?_alloc_some]) (first | (go_at_call 41; refine (hpk _).mono ?_; rintro e w9 ⟨rfl, rfl⟩))
    all_goals
      go_wp2_with fail
      go_meet
      exact ⟨_, rfl, Below.drew (Below.alloc0 _), cells_new8 w1 [.pointer (some ⟨q.p, 0, none⟩), .pointer (some ⟨q.g, 0, none⟩)] _ 0 (by simp), cells_new8 w1 [.pointer (some ⟨q.p, 0, none⟩), .pointer (some ⟨q.g, 0, none⟩)] _ 1 (by simp)⟩
  case rest =>
  obtain ⟨pb, rfl, hBx, x0, x1⟩ := hcut
  have hlt1 : w.heap.size < w1.heap.size := by have := unhide HSZ1; omega
  have HB2 : Hid (Below w.heap.size w wc) := (unhide HB0).trans (hBx.mono (Nat.le_of_lt hlt1))
  have p0 := (hBx.cell (p := ⟨w.heap.size, 0, none⟩) hlt1).trans o0
  have p2 := (hBx.cell (p := ⟨w.heap.size, 2, none⟩) hlt1).trans o2
  have p3 := (hBx.cell (p := ⟨w.heap.size, 3, none⟩) hlt1).trans o3
  have p4 := (hBx.cell (p := ⟨w.heap.size, 4, none⟩) hlt1).trans o4
  obtain ⟨⟨B, sB, hidx⟩, r0, r1⟩ := unhide HQ wc (Keeps.below hBx)
  have hql : q.t.length ≤ 250 := hidx.1.1
  have hSq := Sb_size q.t
  have HX := hide hidx
  clear hBx o0 o1 o2 o3 o4 y0 y1 z0 HQ HB0 hpk hpl him hlt1 hidx
  by_cases hneg : a < 0
  · have hlo := locate_no _ _ _ _ _ s a wc (unhide HX) hneg
    have hrl := rlocate_no q.t s q.g a wc hneg
    have hsm := same_lists (.slice none 0 0) (.slice none 0 0) [] wc (ints_nil _) (ints_nil _)
    go_wp2_with fail
    refine hlo.mono ?_
    rintro en w3 ⟨rfl, hw⟩
    replace hw := hw.symm
    subst hw
    go_wp2_with fail
    refine hrl.mono ?_
    rintro en w3 ⟨rfl, hw⟩
    replace hw := hw.symm
    subst hw
    go_wp2_with fail
    refine hsm.mono ?_
    rintro en w4 ⟨rfl, j4, hw4⟩
    have B4 : Below w.heap.size w w4 := by rw [hw4]; exact below_drewN (unhide HB2)
    have hB24 : Below g wc w4 := by rw [hw4]; exact below_drewN (Below.refl _ _)
    have how := own_any g w _ ps lv0 mv0 ls none 0 w4 (unhide HAV) B4 (fun _ => rfl) (fun b e => by cases e) (by omega) hls
    have HG4 := hide (B4.mono (Nat.le_of_lt (unhide HAV).wv.lt))
    clear hlo hrl hsm hw4 B4 hB24
    go_wp2_with fail
    refine how.mono ?_
    rintro en w5 ⟨rfl, lv', mv', ls', k1, k2, k3⟩
    have HK : Hid (∃ lv' mv' ls', Av g w5 (.slice (some ⟨gi, 0, none⟩) m vc) ps lv' mv' ls' ∧ ls'.length ≤ ls.length + 4 ∧ Below g w w5) := ⟨lv', mv', ls', k1, by omega, (unhide HG4).trans k3⟩
    clear how k1 k2 k3
    go_wp2_with fail
    refine (num_any 1 _ (by omega) (by omega)).mono ?_
    rintro en w6 ⟨rfl, hw⟩
    replace hw := hw.symm
    subst hw
    go_wp2_with fail
    refine (num_any 1 _ (by omega) (by omega)).mono ?_
    rintro en w6 ⟨rfl, hw⟩
    replace hw := hw.symm
    subst hw
    go_wp2_with fail
    go_ret
    exact ⟨by simp, unhide HK⟩
  · obtain ⟨A, rfl⟩ : ∃ A : Nat, a = (A : Int) := ⟨a.toNat, by omega⟩
    have hlo := locate_yes _ _ _ _ _ s A wc (unhide HX) (by unfold maxLen; omega) (by omega)
    have hbs := places_small q.t s.data.toList hql A
    have hszc : w.heap.size ≤ wc.heap.size := (unhide HB2).size
    go_wp2_with fail
    refine hlo.mono ?_
    rintro en w3 ⟨lval, rfl, hL, G3⟩
    have x1' := cell_grown6 x1 G3
    have p2' := cell_grown6 p2 G3
    have p3' := cell_grown6 p3 G3
    have hrl := rlocate_yes q.t s q.g A w3 (cell_grown6 r0 G3) hql (by unfold maxLen; omega) (by omega)
    have HB3 := hide (below_on (unhide HB2) G3 (Nat.le_refl _))
    generalize (Rot.placesIn q.t s.data.toList).take A = D at hL hrl hbs
    have HL := hide hL
    have hL' := hL
    obtain ⟨gx, cap, full, rfl, hI, ht⟩ := hL
    have hgx : wc.heap.size ≤ gx := by
      rcases hI.form with ⟨h0, _⟩ | ⟨g2, _, h1, h2, _⟩
      · cases h0
      · cases h1; exact h2
    have hDf : D.length ≤ full.length := by
      have := congrArg List.length ht
      rw [List.length_take] at this
      omega
    have HII := hide hI
    have hDl := hbs.2
    have HBS := hide hbs
    generalize hDn : D.length = dn at hDl hDf HL ⊢
    have HDn := hide hDn
    clear hlo G3 HB2 x0 x1 p0 p2 p3 p4 r0 r1 hI ht hL' hbs hDn
    go_wp2_with fail
    refine hrl.mono ?_
    rintro en w4 ⟨rv, rfl, hRi, G4⟩
    have hLi := (Lst.ints (unhide HL : Lst w3 wc.heap.size (.slice (some ⟨gx, 0, none⟩) dn dn) D) (unhide HBS).1 (unhide HBS).2).kept G4
    have hsm := same_lists _ rv _ w4 hLi hRi
    have HB4 := hide (below_on (unhide HB3) G4 (Nat.le_refl _))
    have HI4 := hide (ownsRow_kept0 (unhide HII) G4)
    obtain ⟨_, _, ra, rc, hrv, _⟩ := hRi
    rw [List.length_map, unhide HDn] at hrv
    subst hrv
    clear hrl G4 hLi HB3 HII
    go_wp2_with fail
    refine hsm.mono ?_
    rintro en w5 ⟨rfl, j5, hw5⟩
    have B5 : Below w.heap.size w w5 := by rw [hw5]; exact below_drewN (unhide HB4)
    have hI5 : Is w5 w.heap.size (.slice (some ⟨gx, 0, none⟩) full.length cap) full := by rw [hw5]; exact ownsRow_mono (unhide HI4) hszc
    have how := own_any g w _ ps lv0 mv0 ls (some ⟨gx, 0, none⟩) dn w5 (unhide HAV) B5 (fun e => by cases e) (fun b e => by cases e; exact ⟨gx, cap, full, rfl, by omega, hI5, hDf⟩) hDl hls
    have HG5 := hide (B5.mono (Nat.le_of_lt (unhide HAV).wv.lt))
    clear hsm hw5 B5 hI5 HB4 HI4
    go_wp2_with fail
    refine how.mono ?_
    rintro en w6 ⟨rfl, lv', mv', ls', k1, k2, k3⟩
    have HK : Hid (∃ lv' mv' ls', Av g w6 (.slice (some ⟨gi, 0, none⟩) m vc) ps lv' mv' ls' ∧ ls'.length ≤ ls.length + 4 ∧ Below g w w6) := ⟨lv', mv', ls', k1, by omega, (unhide HG5).trans k3⟩
    clear how k1 k2 k3
    go_wp2_with fail
    refine (num_any 0 _ (by omega) (by omega)).mono ?_
    rintro en w7 ⟨rfl, hw⟩
    replace hw := hw.symm
    subst hw
    go_wp2_with fail
    refine (num_any 0 _ (by omega) (by omega)).mono ?_
    rintro en w7 ⟨rfl, hw⟩
    replace hw := hw.symm
    subst hw
    go_wp2_with fail
    go_ret
    exact ⟨by simp, unhide HK⟩
end Go.Proofs.YthlincikgdblfaaGreat

namespace Go.Proofs.YthlincikgdblfaaGreat
set_option linter.unusedVariables false
open Go.RowKit

theorem step_upto (K0 : Nat → Prop) (s : ByteArray) (kd a k b : Int) (lv : Value) (zs : List Int) (g : Nat) (v : Value) (ps : List Pr) (w : World) (hW : Wv K0 g w v ps) (hk8 : kd ≠ 8) (hk : -9223372036854775808 ≤ k ∧ k ≤ 9223372036854775807) (hL : LOk w lv zs) (hs : s.size ≤ 140737488351232) (hps : (ps.length + 1) * 16 ≤ 140737488355328) :
    Calls Tryz.prog 24 #[.pointer (some ⟨g, 0, none⟩), .agg #[.int .i64 kd, .int .i64 k, .string s, .int .i64 a, .int .i64 b, lv]] w fun en w' => en = .returned (.bool true) ∧ StepOut K0 g v ps w w' := by
  by_cases h1 : kd = 1
  · subst h1
    obtain ⟨x, e, h0, h4, hB, hR⟩ := same_any s a (by unfold maxLen; omega)
    refine (step_build x s e a k b lv g h0 h4 hB hR w).mono ?_
    rintro en w' ⟨h1, h2⟩
    exact ⟨h1, StepOut.below hW h2⟩
  by_cases h2 : kd = 2
  · subst h2
    exact step_load K0 s a k b lv zs g v ps w hW hL hs hps
  by_cases h3 : kd = 3
  · subst h3
    exact step_made K0 s a k b lv zs g v ps w hW hL (by unfold maxLen; omega) hps
  by_cases h4 : kd = 4
  · subst h4
    exact step_none K0 s a k b lv g v ps w hW
  exact step_ask K0 s kd a k b lv g v ps w hW h1 h2 h3 h4 hk8 hk hs (by omega)
/-- Step i of a script that may load. -/
def IsOp2 (w : World) (b off i : Nat) : Prop := ∃ (kd x : Int) (s : ByteArray) (a y : Int) (lv : Value) (zs : List Int), (-9223372036854775808 ≤ kd ∧ kd ≤ 9223372036854775807) ∧ (-9223372036854775808 ≤ x ∧ x ≤ 9223372036854775807) ∧ (-9223372036854775808 ≤ a ∧ a ≤ 9223372036854775807) ∧ s.size ≤ 140737488351232 ∧ LOk w lv zs ∧
  w.cell? ⟨b, off + i * 6, none⟩ = some (.int .i64 kd) ∧ w.cell? ⟨b, off + i * 6 + 1, none⟩ = some (.int .i64 x) ∧ w.cell? ⟨b, off + i * 6 + 2, none⟩ = some (.string s) ∧ w.cell? ⟨b, off + i * 6 + 3, none⟩ = some (.int .i64 a) ∧ w.cell? ⟨b, off + i * 6 + 4, none⟩ = some (.int .i64 y) ∧ w.cell? ⟨b, off + i * 6 + 5, none⟩ = some lv
def IsScript2 (w : World) (a : Option Addr) (len : Nat) : Prop := len = 0 ∨ ∃ b off, a = some ⟨b, off, none⟩ ∧ len * 72 ≤ 140737488351232 ∧ ∀ i, i < len → IsOp2 w b off i
theorem lok_nil (w : World) : LOk w (.slice none 0 0) [] := ⟨ints_nil w, fun n c e => (by cases e; rfl), fun a n c e => (by cases e), by simp⟩
/-- A step of any kind. -/
def AvOut (g : Nat) (ps : List Pr) (ls : List (Value × Int)) (w w' : World) : Prop := ∃ v' ps' lv' mv' ls', Av g w' v' ps' lv' mv' ls' ∧ ps'.length ≤ ps.length + 1 ∧ ls'.length ≤ ls.length + 4 ∧ Below g w w'
theorem step_all (s : ByteArray) (kd a k b : Int) (opl : Value) (zs : List Int) (g : Nat) (v : Value) (ps : List Pr) (lv mv : Value) (ls : List (Value × Int)) (w : World) (hA : Av g w v ps lv mv ls) (hls : ls.length ≤ 7900000000000) (hab : -9223372036854775808 ≤ a ∧ a ≤ 9223372036854775807) (hk : -9223372036854775808 ≤ k ∧ k ≤ 9223372036854775807) (hL : LOk w opl zs) (hs : s.size ≤ 140737488351232) (hps : (ps.length + 1) * 16 ≤ 140737488355328) :
    Calls Tryz.prog 24 #[.pointer (some ⟨g, 0, none⟩), .agg #[.int .i64 kd, .int .i64 k, .string s, .int .i64 a, .int .i64 b, opl]] w fun en w' => en = .returned (.bool true) ∧ AvOut g ps ls w w' := by
  by_cases h8 : kd = 8
  · subst h8
    refine (step_locate s a k b opl g v ps lv mv ls w hA hls hab hk hs (by omega)).mono ?_
    rintro en w' ⟨h1, lv', mv', ls', h2, h3, h4⟩
    exact ⟨h1, v, ps, lv', mv', ls', h2, by omega, h3, h4⟩
  · refine (step_upto (KL lv mv) s kd a k b opl zs g v ps w hA.wv h8 hk hL hs hps).mono ?_
    rintro en w' ⟨h1, h2⟩
    obtain ⟨v', ps', h3, h4, h5⟩ := hA.step h2
    exact ⟨h1, v', ps', lv, mv, ls, h3, h4, by omega, h5⟩
/-- The world of a script, just made. -/
theorem Av.new (w : World) (ty : TypeId) : Av w.heap.size (w.alloc (.cells #[.slice none 0 0, .slice none 0 0, .slice none 0 0] ty)) (.slice none 0 0) [] (.slice none 0 0) (.slice none 0 0) [] := by
  have c := fun j hj => cells_new8 w [.slice none 0 0, .slice none 0 0, .slice none 0 0] ty j hj
  have f : ∀ j, (w.alloc (.cells #[.slice none 0 0, .slice none 0 0, .slice none 0 0] ty)).frozen? ⟨w.heap.size, j, none⟩ = false := fun j => by go_simp
  refine ⟨⟨c 0 (by simp), f 0, World.ownsRow_nil _ _ _ _, fun q hq => (by cases hq), ?_⟩, c 1 (by simp), c 2 (by simp), f 1, f 2, World.ownsRow_nil _ _ _ _, IsZ.nil _ _, fun x hx => (by cases hx), ?_, ?_⟩
  · rintro i (h | h) <;> cases h
  · intro i h; cases h
  · intro i h; cases h
/-- Behind k steps. -/
def PlA (w : World) (len : Nat) (ok i : Value) (wr : World) : Prop := ∃ (k : Nat) (v : Value) (ps : List Pr) (lv mv : Value) (ls : List (Value × Int)), k ≤ len ∧ ok = .bool true ∧ i = .int .i64 (k : Int) ∧ Below w.heap.size w wr ∧ Av w.heap.size wr v ps lv mv ls ∧ ps.length ≤ k + 2 ∧ ls.length ≤ 4 * k + 8
theorem PlA.mk {w : World} {len : Nat} {ok i : Value} {wr : World} (k : Nat) (v : Value) (ps : List Pr) (lv mv : Value) (ls : List (Value × Int)) (h1 : k ≤ len) (h2 : ok = .bool true) (h3 : i = .int .i64 (k : Int)) (h4 : Below w.heap.size w wr) (h5 : Av w.heap.size wr v ps lv mv ls) (h6 : ps.length ≤ k + 2) (h7 : ls.length ≤ 4 * k + 8) : PlA w len ok i wr := ⟨k, v, ps, lv, mv, ls, h1, h2, h3, h4, h5, h6, h7⟩
set_option maxRecDepth 100000 in
set_option maxHeartbeats 2000000 in
theorem played8 (a0 : Option Addr) (len cap : Nat) (w : World) (hA : IsScript2 w a0 len) :
    Calls Tryz.prog 11 #[.slice a0 len cap, .int .i64 8] w fun e w' => e = .returned (.bool true) ∧ Below w.heap.size w w' := by
  have hlen : len * 72 ≤ 140737488351232 := by
    rcases hA with rfl | ⟨_, _, _, h, _⟩
    · omega
    · exact h
  have HA := hide hA
  have A0 := Av.new w 55
  have HB0 : Hid (Below w.heap.size w (w.alloc (.cells #[.slice none 0 0, .slice none 0 0, .slice none 0 0] 55))) := Below.alloc0 _
  have hst := step_all ⟨#[97, 98, 97]⟩ 1 2 0 0 (.slice none 0 0) [] w.heap.size _ [] _ _ [] _ A0 (by simp) (by decide) (by decide) (lok_nil _) (by decide) (by simp)
  clear hA A0
  go_enter Tryz.func11, Tryz.ntmps11
  go_wp2_with fail
  refine hst.mono ?_
  rintro e w1 ⟨rfl, v1, ps1, lv1, mv1, ls1, A1, hp1, hl1, U1⟩
  simp only [List.length_nil] at hp1 hl1
  have HB1 := hide ((unhide HB0).trans U1)
  have hst2 := step_all ⟨#[97, 98, 97]⟩ 3 2 0 0 (.slice none 0 0) [] w.heap.size v1 ps1 lv1 mv1 ls1 w1 A1 (by omega) (by decide) (by decide) (lok_nil _) (by decide) (by omega)
  clear hst HB0 U1 A1
  go_wp2_with fail
  refine hst2.mono ?_
  rintro e w2 ⟨rfl, v2, ps2, lv2, mv2, ls2, A2, hp2, hl2, U2⟩
  have P0 : PlA w len (.bool true) (.int .i64 0) w2 := PlA.mk 0 v2 ps2 lv2 mv2 ls2 (by omega) rfl rfl ((unhide HB1).trans U2) A2 (by omega) (by omega)
  clear hst2 U2 A2 HB1
  go_wp2_with fail
  go_loopw [6, 7] (fun ok i wr => PlA w len ok i wr) (fun _ i _ => len - (intOf i).toNat)
  case atStart => exact P0
  case round =>
    obtain ⟨k, v, ps, lv, mv, ls, hk, rfl, rfl, B2, A, hps, hls⟩ := hrel
    clear P0
    by_cases hlt : k < len
    · rcases unhide HA with h0 | ⟨b, off, rfl, _, hop⟩
      · omega
      obtain ⟨kd, x, s, a, y, opl, zs, hkb, hxb, hab, hs, hL, q0, q1, q2, q3, q4, q5⟩ := hop k hlt
      have hb : b < w.heap.size := World.block_lt_of_cell? w _ q0
      have q0 := (B2.cell (p := ⟨b, off + k * 6, none⟩) hb).trans q0
      have q1 := (B2.cell (p := ⟨b, off + k * 6 + 1, none⟩) hb).trans q1
      have q2 := (B2.cell (p := ⟨b, off + k * 6 + 2, none⟩) hb).trans q2
      have q3 := (B2.cell (p := ⟨b, off + k * 6 + 3, none⟩) hb).trans q3
      have q4 := (B2.cell (p := ⟨b, off + k * 6 + 4, none⟩) hb).trans q4
      have q5 := (B2.cell (p := ⟨b, off + k * 6 + 5, none⟩) hb).trans q5
      have hL2 := hL.below B2 (Nat.le_refl _)
      have HB2 := hide B2
      have HAv := hide A
      obtain ⟨kk1, kk2⟩ := hkb
      clear hop B2 hL
      by_cases hkd : kd ≤ 8
      · have HST := hide (step_all s kd a x y opl zs w.heap.size v ps lv mv ls wr A (by omega) hab hxb hL2 hs (by omega))
        have hdk : decide (kd ≤ 8) = true := by simpa using hkd
        clear A hL2
        go_wp2_with fail
        refine (unhide HST).mono ?_
        rintro e w3 ⟨rfl, v3, ps3, lv3, mv3, ls3, A3, hp3, hl3, U3⟩
        have HB3 := hide ((unhide HB2).trans U3)
        have hlk := looks_all w.heap.size w3 v3 ps3 lv3 mv3 ls3 A3 (by omega)
        have HA3 := hide A3
        clear HST q0 q1 q2 q3 q4 q5 HB2 U3 A3 HAv
        go_wp2_with fail
        refine hlk.mono ?_
        rintro e w4 ⟨rfl, j4, hw4⟩
        have HA4 : Hid (Av w.heap.size w4 v3 ps3 lv3 mv3 ls3) := by rw [hw4]; exact (unhide HA3).drewN j4
        have HB4 : Hid (Below w.heap.size w w4) := by rw [hw4]; exact below_drewN (unhide HB3)
        clear hlk hw4 HA3 HB3
        go_wp2_with fail
        go_roundw
        case rel =>
          first | exact PlA.mk (k + 1) v3 ps3 lv3 mv3 ls3 (by omega) rfl (by go_num) (unhide HB4) (unhide HA4) (by omega) (by omega) | (repeat apply Exists.intro; refine ⟨?_, rfl⟩; exact PlA.mk (k + 1) v3 ps3 lv3 mv3 ls3 (by omega) rfl (by go_num) (unhide HB4) (unhide HA4) (by omega) (by omega))
        case measure => simp [intOf]; omega
      · have hdk : decide (kd ≤ 8) = false := by simpa using hkd
        have hlk := looks_all w.heap.size wr v ps lv mv ls A (by omega)
        clear A hL2
        go_wp2_with fail
        refine hlk.mono ?_
        rintro e w4 ⟨rfl, j4, hw4⟩
        have HA4 : Hid (Av w.heap.size w4 v ps lv mv ls) := by rw [hw4]; exact (unhide HAv).drewN j4
        have HB4 : Hid (Below w.heap.size w w4) := by rw [hw4]; exact below_drewN (unhide HB2)
        clear q0 q1 q2 q3 q4 q5 hlk hw4 HAv HB2
        go_wp2_with fail
        go_roundw
        case rel =>
          first | exact PlA.mk (k + 1) v ps lv mv ls (by omega) rfl (by go_num) (unhide HB4) (unhide HA4) (by omega) (by omega) | (repeat apply Exists.intro; refine ⟨?_, rfl⟩; exact PlA.mk (k + 1) v ps lv mv ls (by omega) rfl (by go_num) (unhide HB4) (unhide HA4) (by omega) (by omega))
        case measure => simp [intOf]; omega
    · have ek : k = len := by omega
      subst ek
      have HB2 := hide B2
      clear B2 A
      go_wp2_with fail
      go_ret
      exact ⟨rfl, unhide HB2⟩
theorem all_walk (a0 : Option Addr) (len cap : Nat) (w : World) (hA : IsScript2 w a0 len) :
    Calls Tryz.prog 10 #[.slice a0 len cap] w fun e w' => e = .returned (.bool true) ∧ Below w.heap.size w w' := by
  go_enter Tryz.func10, Tryz.ntmps10
  go_wp2_with fail
  refine (played8 a0 len cap w hA).mono ?_
  rintro e w1 ⟨rfl, B1⟩
  go_wp2_with fail
  go_ret
  exact ⟨rfl, B1⟩
end Go.Proofs.YthlincikgdblfaaGreat
