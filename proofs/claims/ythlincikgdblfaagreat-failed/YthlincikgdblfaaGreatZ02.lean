import Derived.Test.YthlincikgdblfaaGreatZ01
import Derived.Laws.BitsAllLaws
import Derived.Lib.AppendZeros
namespace Go.Proofs.YthlincikgdblfaaGreat
open Go.RowKit
set_option linter.unusedVariables false

theorem take_filter_snoc {α : Type} (p : α → Bool) (d : List α) (k : Nat) (hk : k < d.length) : (d.take (k + 1)).filter p = (d.take k).filter p ++ if p (d[k]'hk) then [d[k]'hk] else [] := by
  rw [List.take_succ_eq_append_getElem hk, List.filter_append]
  simp [List.filter_cons]

set_option maxHeartbeats 400000 in
theorem places_any (B : Nat) (v : Value) (d : List Nat) (r : Nat) (w : World) (h : Is w B v d) (hd : ∀ x ∈ d, x < 1000) (hdl : d.length < 1000) (hr1 : 1 ≤ r) (hr2 : r ≤ 8) :
    Calls Tryz.prog 96 #[v, .int .i64 r] w fun e w' => ∃ v', e = .returned v' ∧ Bs w' w.heap.size v' (Rot.placesOf d r) ∧ w.grownBy w' none := by
  rcases h.form with ⟨rfl, rfl⟩ | ⟨g, cap, rfl, hg1, hg2, hg3⟩
  · go_enter Tryz.func96, Tryz.ntmps96
    go_wp2_with fail
    refine wp_loop_rounds 1 ?_
    rw [rounds_succ]
    go_wp2_with fail
    go_ret
    exact ⟨_, rfl, Bs.nil _ _, World.grownBy.refl _ _⟩
  · have HD : Hid (∀ x ∈ d, x < 1000) := hd
    have HU : Hid (Is w B (.slice (some ⟨g, 0, none⟩) d.length cap) d) := h
    clear hd h
    go_enter Tryz.func96, Tryz.ntmps96
    go_wp2_with fail
    go_loopw [5, 10] (fun u i wr => ∃ k : Nat, k ≤ d.length ∧ i = .int .i64 k ∧ Bs wr w.heap.size u (((d.take k).filter (Rot.isMarked r)).flatMap Rot.le16) ∧ w.grownBy wr none) (fun _ i _ => d.length - (intOf i).toNat)
    case atStart => exact ⟨0, Nat.zero_le _, rfl, Bs.nil _ _, World.grownBy.refl _ _⟩
    case round =>
      obtain ⟨k, hk, rfl, A, G⟩ := hrel
      by_cases hlt : k < d.length
      · have hck := Is.cell (ownsRow_kept0 HU.out G) k hlt
        have hx : d[k]'hlt < 1000 := HD.out _ (List.getElem_mem hlt)
        have hlen : (((d.take k).filter (Rot.isMarked r)).flatMap Rot.le16).length < 900000 := by
          rw [flat_len]
          have := List.length_filter_le (Rot.isMarked r) (d.take k)
          rw [List.length_take] at this
          omega
        have hsz := G.size
        have HF : Hid ((d.take (k + 1)).filter (Rot.isMarked r) = (d.take k).filter (Rot.isMarked r) ++ if Rot.isMarked r (d[k]'hlt) then [d[k]'hlt] else []) := take_filter_snoc _ d k hlt
        go_wp2_with fail
        refine (isMarked_any _ _ _ (by omega) hr1 hr2).mono ?_
        rintro e w1 ⟨rfl, hw1⟩
        subst hw1
        cases hm : Rot.isMarked r (d[k]'hlt) with
        | true =>
          go_wp2_with fail
          refine (app16_any w.heap.size _ _ _ _ (by omega) A hlen (by omega)).mono ?_
          rintro e w1 ⟨u', rfl, A1⟩
          have B1 := A1.own
          have G1 := A1.fresh G A
          have e2 : ((d.take k).filter (Rot.isMarked r)).flatMap Rot.le16 ++ Rot.le16 (d[k]'hlt) = ((d.take (k + 1)).filter (Rot.isMarked r)).flatMap Rot.le16 := by
            rw [HF.out, hm, List.flatMap_append]; simp
          rw [e2] at B1
          have HB := hide B1
          clear A A1 B1 G hck hlen hm e2
          go_wp2_with fail
          go_roundw
          case rel => exact ⟨k + 1, by omega, by go_num, (unhide HB), G1⟩
          case measure => simp [intOf]; omega
        | false =>
          have e2 : (d.take k).filter (Rot.isMarked r) = (d.take (k + 1)).filter (Rot.isMarked r) := by
            rw [HF.out, hm]; simp
          rw [e2] at A
          have HB := hide A
          clear A hck hlen hm e2
          go_wp2_with fail
          go_roundw
          case rel => exact ⟨k + 1, by omega, by go_num, (unhide HB), G⟩
          case measure => simp [intOf]; omega
      · have hk' : k = d.length := by omega
        subst hk'
        rw [List.take_length] at A
        go_wp2
        go_ret
        exact ⟨_, rfl, A, G⟩

theorem at_zero (d : List Nat) (k : Nat) (hk : k < d.length) : ((d.take (k + 1)).filter fun p => decide (0 < p)) = ((d.take k).filter fun p => decide (0 < p)) ++ if 0 < d[k]'hk then [d[k]'hk] else [] := by
  rw [take_filter_snoc _ d k hk]
  simp

theorem column_snoc (t : List UInt8) (d : List Nat) (k : Nat) (hk : k < d.length) : Rot.columnOf t (d.take (k + 1)) = Rot.columnOf t (d.take k) ++ if 0 < d[k]'hk then [(t[d[k]'hk - 1]?).getD 0] else [] := by
  unfold Rot.columnOf
  rw [at_zero d k hk, List.map_append]
  by_cases h : 0 < d[k]'hk <;> simp [h]
theorem column_len (t : List UInt8) (d : List Nat) : (Rot.columnOf t d).length ≤ d.length := by
  unfold Rot.columnOf
  rw [List.length_map]
  exact List.length_filter_le _ _
theorem byte_at (s : ByteArray) (j : Nat) (hj : j < s.size) : (s.data.toList[j]?).getD 0 = s[j] := by
  have : j < s.data.toList.length := by simpa using hj
  rw [List.getElem?_eq_getElem this]
  rfl

set_option maxRecDepth 100000 in
set_option maxHeartbeats 1000000 in
theorem column_any (B : Nat) (s : ByteArray) (g cap : Nat) (d : List Nat) (w : World) (h : Is w B (.slice (some ⟨g, 0, none⟩) d.length cap) d) (hd : ∀ x ∈ d, x ≤ s.size) (hdl : d.length < 1000) (hs : s.size < 1000) :
    Calls Tryz.prog 93 #[.string s, .slice (some ⟨g, 0, none⟩) d.length cap] w fun e w' => ∃ v', e = .returned v' ∧ Bs w' w.heap.size v' (Rot.columnOf s.data.toList d) ∧ w.grownBy w' none := by
  obtain ⟨i0, hi, hz0, hz1, hz2⟩ := info_parts info8
  have HD := hide hd
  have HU := hide h
  clear hd h
  go_enter Tryz.func93, Tryz.ntmps93
  go_wp2_with (at_make; refine wpList_make_own _ rfl _ _ 45 rfl w.heap.size 5 i0 (.int .u8 0) 1 Tryz.underlying45 hi hz0 hz1 .i64 .i64 _ s.size rfl rfl rfl ?m1 ?m2 (Nat.le_refl _) ?_)
  case m1 => rw [hz2]; omega
  case m2 => unfold maxLen; omega
  intro w0 O0 G0
  have B0 : Bs w0 w.heap.size (.slice (some ⟨w.heap.size, 0, none⟩) 0 s.size) [] := O0
  clear O0
  go_wp2_with fail
  go_loopw [5, 13] (fun u i wr => ∃ k : Nat, k ≤ d.length ∧ i = .int .i64 k ∧ Bs wr w.heap.size u (Rot.columnOf s.data.toList (d.take k)) ∧ w.grownBy wr none) (fun _ i _ => d.length - (intOf i).toNat)
  case atStart => exact ⟨0, Nat.zero_le _, rfl, B0, G0⟩
  case round =>
    obtain ⟨k, hk, rfl, A, G⟩ := hrel
    clear B0 G0
    by_cases hlt : k < d.length
    · have hck := Is.cell (ownsRow_kept0 (unhide HU) G) k hlt
      have hx : d[k]'hlt ≤ s.size := unhide HD _ (List.getElem_mem hlt)
      have hlen : (Rot.columnOf s.data.toList (d.take k)).length < 1000000 := by
        have := column_len s.data.toList (d.take k)
        rw [List.length_take] at this
        omega
      have hsz := G.size
      have HF := hide (column_snoc s.data.toList d k hlt)
      by_cases hp : 0 < d[k]'hlt
      · have hidx : d[k]'hlt - 1 < s.size := by omega
        have HB := hide (byte_at s (d[k]'hlt - 1) hidx)
        generalize hdk : d[k]'hlt = q at hck hx HF hp hidx HB
        clear hdk
        go_wp2_with (at_builtin; refine wp_app1 _ rfl (.tmp 19) (.tmp 24) rfl w.heap.size _ (Rot.columnOf s.data.toList (d.take k)) rfl wr _ rfl rfl A (s[q - 1]) ?b0 hlen hsz ?_)
        case b0 => rfl
        intro u' w1 A1
        have G1 := A1.fresh G A
        have B1 := A1.own
        have e2 : Rot.columnOf s.data.toList (d.take k) ++ [s[q - 1]] = Rot.columnOf s.data.toList (d.take (k + 1)) := by
          rw [unhide HF, if_pos hp, unhide HB]
        rw [e2] at B1
        have HB1 := hide B1
        clear A A1 B1 G hck hlen e2
        go_wp2_with fail
        go_roundw
        case rel => exact ⟨k + 1, by omega, by go_num, unhide HB1, G1⟩
        case measure => simp [intOf]; omega
      · have e2 : Rot.columnOf s.data.toList (d.take k) = Rot.columnOf s.data.toList (d.take (k + 1)) := by
          rw [unhide HF, if_neg hp]; simp
        rw [e2] at A
        have HB1 := hide A
        clear A hlen e2
        go_wp2_with fail
        go_roundw
        case rel => exact ⟨k + 1, by omega, by go_num, unhide HB1, G⟩
        case measure => simp [intOf]; omega
    · have hk' : k = d.length := by omega
      subst hk'
      rw [List.take_length] at A
      go_wp2
      go_ret
      exact ⟨_, rfl, A, G⟩
end Go.Proofs.YthlincikgdblfaaGreat

namespace Go.Proofs.YthlincikgdblfaaGreat
open Go.RowKit
set_option linter.unusedVariables false

theorem and8 (c m : UInt8) : bits BinOp.and IntKind.u8 (c.toNat : Int) (m.toNat : Int) = ((c &&& m).toNat : Int) := by
  rw [UInt8.toNat_and, u8_and_nat _ _ c.toNat_lt m.toNat_lt]
theorem or8 (c m : UInt8) : bits BinOp.or IntKind.u8 (c.toNat : Int) (m.toNat : Int) = ((c ||| m).toNat : Int) := by
  rw [UInt8.toNat_or, u8_or_nat _ _ c.toNat_lt m.toNat_lt]

set_option maxHeartbeats 1000000 in
theorem split_any (B : Nat) (v : Value) (l : List UInt8) (m : UInt8) (w : World) (h : Bs w B v l) (hl : l.length < 1000) :
    Calls Tryz.prog 125 #[v, .int .u8 m.toNat] w fun e w' => ∃ z o, e = .returned (.tuple #[z, o]) ∧ Bs w' w.heap.size z (Rot.zerosOf m l) ∧ Bs w' w.heap.size o (Rot.onesOf m l) ∧ Apart z o ∧ w.grownBy w' none := by
  rcases h.form with ⟨rfl, rfl⟩ | ⟨g, cap, rfl, hg1, hg2, hg3⟩
  · go_enter Tryz.func125, Tryz.ntmps125
    go_wp2_with fail
    refine wp_loop_rounds 1 ?_
    rw [rounds_succ]
    go_wp2_with fail
    go_ret2
    exact ⟨_, _, rfl, Bs.nil _ _, Bs.nil _ _, Apart.nil _, World.grownBy.refl _ _⟩
  · have HU := hide h
    clear h
    go_enter Tryz.func125, Tryz.ntmps125
    go_wp2_with fail
    go_loopw [4, 5, 10] (fun z o i wr => ∃ k : Nat, k ≤ l.length ∧ i = .int .i64 k ∧ Bs wr w.heap.size z (Rot.zerosOf m (l.take k)) ∧ Bs wr w.heap.size o (Rot.onesOf m (l.take k)) ∧ Apart z o ∧ w.grownBy wr none) (fun _ _ i _ => l.length - (intOf i).toNat)
    case atStart => exact ⟨0, Nat.zero_le _, rfl, Bs.nil _ _, Bs.nil _ _, Apart.nil _, World.grownBy.refl _ _⟩
    case round =>
      obtain ⟨k, hk, rfl, Z, O, AP, G⟩ := hrel
      by_cases hlt : k < l.length
      · have hck := Bs.cell (Bs.kept0 (unhide HU) G) k hlt
        have hz1 : (Rot.zerosOf m (l.take k)).length < 1000000 := by
          have := List.length_filter_le (fun c : UInt8 => c &&& m == 0) (l.take k)
          rw [List.length_take] at this
          unfold Rot.zerosOf
          omega
        have ho1 : (Rot.onesOf m (l.take k)).length < 1000000 := by
          have := List.length_filter_le (fun c : UInt8 => !(c &&& m == 0)) (l.take k)
          rw [List.length_take] at this
          unfold Rot.onesOf
          omega
        have hsz := G.size
        have HZ := hide (take_filter_snoc (fun c : UInt8 => c &&& m == 0) l k hlt)
        have HO := hide (take_filter_snoc (fun c : UInt8 => !(c &&& m == 0)) l k hlt)
        generalize hcc : l[k]'hlt = c at hck HZ HO
        clear hcc
        cases hm : c &&& m == 0 with
        | true =>
          have hm2 : (bits BinOp.and IntKind.u8 (c.toNat : Int) (m.toNat : Int) == 0) = true := by
            have : c &&& m = 0 := by simpa using hm
            rw [and8, this]; rfl
          go_wp2_with (at_builtin; refine wp_app1 _ rfl (.tmp 18) (.tmp 20) rfl w.heap.size _ (Rot.zerosOf m (l.take k)) rfl wr _ rfl rfl Z c ?b0 hz1 hsz ?_)
          case b0 => rfl
          intro z' w1 A1
          have G1 := A1.fresh G Z
          have B1 := A1.own
          have O1 := O.kept A1.grown AP.symm.kept
          have AP1 := AP.step A1.at' (fun k hk => (O.lt hk).2)
          have e2 : Rot.zerosOf m (l.take k) ++ [c] = Rot.zerosOf m (l.take (k + 1)) := by
            unfold Rot.zerosOf
            rw [unhide HZ, hm]; simp
          have e3 : Rot.onesOf m (l.take k) = Rot.onesOf m (l.take (k + 1)) := by
            unfold Rot.onesOf
            rw [unhide HO, hm]; simp
          rw [e2] at B1
          rw [e3] at O1
          have HB1 := hide B1
          have HO1 := hide O1
          have HAP := hide AP1
          clear Z O A1 B1 O1 G hck hz1 ho1 e2 e3 AP AP1 hm hm2
          go_wp2_with fail
          go_roundw
          case rel => exact ⟨k + 1, by omega, by go_num, unhide HB1, unhide HO1, unhide HAP, G1⟩
          case measure => simp [intOf]; omega
        | false =>
          have hm2 : (bits BinOp.and IntKind.u8 (c.toNat : Int) (m.toNat : Int) == 0) = false := by
            rw [and8]
            have h0 : ¬ c &&& m = 0 := by simpa using hm
            have h1 : ¬ (c &&& m).toNat = 0 := fun e => h0 (UInt8.toNat_inj.1 e)
            simp only [beq_eq_false_iff_ne, ne_eq]
            omega
          go_wp2_with (at_builtin; refine wp_app1 _ rfl (.tmp 22) (.tmp 24) rfl w.heap.size _ (Rot.onesOf m (l.take k)) rfl wr _ rfl rfl O c ?b0 ho1 hsz ?_)
          case b0 => rfl
          intro o' w1 A1
          have G1 := A1.fresh G O
          have B1 := A1.own
          have Z1 := Z.kept A1.grown AP.kept
          have AP1 := (AP.symm.step A1.at' (fun k hk => (Z.lt hk).2)).symm
          have e2 : Rot.onesOf m (l.take k) ++ [c] = Rot.onesOf m (l.take (k + 1)) := by
            unfold Rot.onesOf
            rw [unhide HO, hm]; simp
          have e3 : Rot.zerosOf m (l.take k) = Rot.zerosOf m (l.take (k + 1)) := by
            unfold Rot.zerosOf
            rw [unhide HZ, hm]; simp
          rw [e2] at B1
          rw [e3] at Z1
          have HB1 := hide B1
          have HO1 := hide Z1
          have HAP := hide AP1
          clear Z O A1 B1 Z1 G hck hz1 ho1 e2 e3 AP AP1 hm hm2
          go_wp2_with fail
          go_roundw
          case rel => exact ⟨k + 1, by omega, by go_num, unhide HO1, unhide HB1, unhide HAP, G1⟩
          case measure => simp [intOf]; omega
      · have hk' : k = l.length := by omega
        subst hk'
        rw [List.take_length] at Z O
        go_wp2
        go_ret2
        exact ⟨_, _, rfl, Z, O, AP, G⟩
end Go.Proofs.YthlincikgdblfaaGreat

namespace Go.Proofs.YthlincikgdblfaaGreat
open Go.RowKit
set_option linter.unusedVariables false

set_option maxRecDepth 100000 in
set_option maxHeartbeats 1000000 in
theorem grow_any (n : Nat) (w : World) (hn : n < 100000) :
    Calls Tryz.prog 149 #[.slice none 0 0, .int .i64 n] w fun e w' => ∃ v', e = .returned v' ∧ Bs w' w.heap.size v' [] ∧ w.grownBy w' none := by
  obtain ⟨i0, hi, hz0, hz1, hz2⟩ := info_parts info8
  by_cases h0 : n = 0
  · subst h0
    go_enter Tryz.func149, Tryz.ntmps149
    go_wp2_with fail
    go_ret
    exact ⟨_, rfl, Bs.nil _ _, World.grownBy.refl _ _⟩
  · have hpos : 0 < n := by omega
    have hrun := fun ty => Lib.run_append_nil_zeros (P := Tryz.prog) w 45 3 ty 5 i0 (.int .u8 0) .i64 .i64 Tryz.underlying45 Tryz.underlying3 hi hz0 n hpos (by rw [hz1]; decide) (by omega) (by rw [hz2]; omega)
    have HR := hide hrun
    clear hrun
    go_enter Tryz.func149, Tryz.ntmps149
    go_wp2_with (at_builtin; refine Lib.wpList_append_run _ rfl (.tmp 20) (.tmp 21) _ _ rfl _ _ rfl rfl _ _ (unhide HR _) ?_)
    go_ret
    refine ⟨_, rfl, ?_, ?_⟩
    · have hge := grownCap_ge w n 0 5
      have hle := grownCap_le_maxLen w n 0 5 (by unfold maxLen; omega)
      refine ⟨rfl, .inr ⟨w.heap.size, grownCap w n 0 5, _, rfl, Nat.le_refl _, heap_alloc_new _ _, Nat.zero_le _, hle, ?_, by simp [by8]⟩⟩
      simp only [Array.size_append, size_zeroCells]
      show n * 1 + (_ - n) * 1 = _ * 1
      omega
    · exact ⟨rfl, rfl, rfl, by simp, fun k hk _ => Below.heap_alloc w.drew _ k hk⟩

set_option maxRecDepth 100000 in
set_option maxHeartbeats 1000000 in
theorem concat_any (B b : Nat) (z o : Value) (lz lo : List UInt8) (w : World) (hb : b < w.heap.size) (h0 : w.cell? ⟨b, 0, none⟩ = some z) (h1 : w.cell? ⟨b, 1, none⟩ = some o) (hz : Bs w B z lz) (ho : Bs w B o lo) (hl : lz.length < 1000) (hl2 : lo.length < 1000) :
    Calls Tryz.prog 127 #[.slice (some ⟨b, 0, none⟩) 2 2] w fun e w' => ∃ v', e = .returned v' ∧ Bs w' w.heap.size v' (lz ++ lo) ∧ w.grownBy w' none := by
  obtain ⟨az, cz, rfl⟩ := hz.shape
  obtain ⟨ao, co, rfl⟩ := ho.shape
  have HZ := hide hz
  have HO := hide ho
  have H0 := hide h0
  have H1 := hide h1
  clear hz ho
  go_enter Tryz.func127, Tryz.ntmps127
  go_wp2_with fail
  refine wp_loop_rounds 3 ?_
  rw [rounds_succ]
  go_wp2_with fail
  rw [rounds_succ]
  go_wp2_with fail
  rw [rounds_succ]
  go_wp2_with fail
  have hn : ((lz.length : Int) + (lo.length : Int)) = ((lz.length + lo.length : Nat) : Int) := by omega
  rw [hn]
  refine (grow_any (lz.length + lo.length) _ (by omega)).mono ?_
  rintro e w1 ⟨u1, rfl, A1, G1⟩
  clear hn h0 h1
  have q0 : w1.cell? ⟨b, 0, none⟩ = some (.slice az lz.length cz) := G1.cell (unhide H0) (by simp)
  have q1 : w1.cell? ⟨b, 1, none⟩ = some (.slice ao lo.length co) := G1.cell (unhide H1) (by simp)
  have Z1 := hide (Bs.kept0 (unhide HZ) G1)
  have hsz := G1.size
  go_wp2_with fail
  refine wp_loop_rounds 3 ?_
  rw [rounds_succ]
  go_wp2_with (at_builtin; refine wp_appBs _ rfl (.tmp 31) (.tmp 32) rfl w.heap.size _ [] rfl A1 _ B lz rfl (unhide Z1) ?c1 hsz ?_)
  case c1 => simp only [List.length_nil]; omega
  intro u2 w2 A2
  have G2 := A2.fresh G1 A1
  have B2 := A2.own
  try rw [List.nil_append] at B2
  have q1 : w2.cell? ⟨b, 1, none⟩ = some (.slice ao lo.length co) := G2.cell (unhide H1) (by simp)
  have O2 := hide (Bs.kept0 (unhide HO) G2)
  have hsz2 := G2.size
  clear A1 A2 G1 q0 Z1 hsz
  go_wp2_with fail
  rw [rounds_succ]
  go_wp2_with (at_builtin; refine wp_appBs _ rfl (.tmp 31) (.tmp 32) rfl w.heap.size _ lz rfl B2 _ B lo rfl (unhide O2) ?c1 hsz2 ?_)
  case c1 => omega
  intro u3 w3 A3
  have G3 := A3.fresh G2 B2
  have B3 := A3.own
  clear A3 G2 B2 O2 hsz2
  go_wp2_with fail
  rw [rounds_succ]
  go_wp2_with fail
  go_ret
  exact ⟨_, rfl, B3, G3⟩
end Go.Proofs.YthlincikgdblfaaGreat
