import Derived.Test.YthlincikgdblfaaGreatA2
namespace Go.Proofs.YthlincikgdblfaaGreat
open Go.RowKit
set_option linter.unusedVariables false

theorem take_filter_snoc {α : Type} (p : α → Bool) (d : List α) (k : Nat) (hk : k < d.length) : (d.take (k + 1)).filter p = (d.take k).filter p ++ if p (d[k]'hk) then [d[k]'hk] else [] := by
  rw [List.take_succ_eq_append_getElem hk, List.filter_append]
  simp [List.filter_cons]

set_option maxHeartbeats 400000 in
theorem places_any (B : Nat) (v : Value) (d : List Nat) (r : Nat) (w : World) (h : Is w B v d) (hd : ∀ x ∈ d, x < 1000) (hdl : d.length < 1000) (hr1 : 1 ≤ r) (hr2 : r ≤ 8) :
    Calls Tryz.prog 96 #[v, .int .i64 r] w fun e w' => ∃ v', e = .returned v' ∧ Bs w' w.heap.size v' (Rot.placesOf d r) ∧ w.grownBy w' none := by
  rcases h.form with ⟨rfl, rfl⟩ | ⟨g, cap, rfl, hg1, hg2, hg3⟩
  · go_enter Tryz.func96, Tryz.ntmps96
    go_wp2_with fail
    refine wp_loop_rounds 1 ?_
    rw [rounds_succ]
    go_wp2_with fail
    go_ret
    exact ⟨_, rfl, Bs.nil _ _, World.grownBy.refl _ _⟩
  · have HD : Hid (∀ x ∈ d, x < 1000) := hd
    have HU : Hid (Is w B (.slice (some ⟨g, 0, none⟩) d.length cap) d) := h
    clear hd h
    go_enter Tryz.func96, Tryz.ntmps96
    go_wp2_with fail
    go_loopw [5, 10] (fun u i wr => ∃ k : Nat, k ≤ d.length ∧ i = .int .i64 k ∧ Bs wr w.heap.size u (((d.take k).filter (Rot.isMarked r)).flatMap Rot.le16) ∧ w.grownBy wr none) (fun _ i _ => d.length - (intOf i).toNat)
    case atStart => exact ⟨0, Nat.zero_le _, rfl, Bs.nil _ _, World.grownBy.refl _ _⟩
    case round =>
      obtain ⟨k, hk, rfl, A, G⟩ := hrel
      by_cases hlt : k < d.length
      · have hck := Is.cell (ownsRow_kept0 HU.out G) k hlt
        have hx : d[k]'hlt < 1000 := HD.out _ (List.getElem_mem hlt)
        have hlen : (((d.take k).filter (Rot.isMarked r)).flatMap Rot.le16).length < 900000 := by
          rw [flat_len]
          have := List.length_filter_le (Rot.isMarked r) (d.take k)
          rw [List.length_take] at this
          omega
        have hsz := G.size
        have HF : Hid ((d.take (k + 1)).filter (Rot.isMarked r) = (d.take k).filter (Rot.isMarked r) ++ if Rot.isMarked r (d[k]'hlt) then [d[k]'hlt] else []) := take_filter_snoc _ d k hlt
        go_wp2_with fail
        refine (isMarked_any _ _ _ (by omega) hr1 hr2).mono ?_
        rintro e w1 ⟨rfl, hw1⟩
        subst hw1
        cases hm : Rot.isMarked r (d[k]'hlt) with
        | true =>
          go_wp2_with fail
          refine (app16_any w.heap.size _ _ _ _ (by omega) A hlen (by omega)).mono ?_
          rintro e w1 ⟨u', rfl, A1⟩
          have B1 := A1.own
          have G1 := A1.fresh G A
          have e2 : ((d.take k).filter (Rot.isMarked r)).flatMap Rot.le16 ++ Rot.le16 (d[k]'hlt) = ((d.take (k + 1)).filter (Rot.isMarked r)).flatMap Rot.le16 := by
            rw [HF.out, hm, List.flatMap_append]; simp
          rw [e2] at B1
          have HB := hide B1
          clear A A1 B1 G hck hlen hm e2
          go_wp2_with fail
          go_roundw
          case rel => exact ⟨k + 1, by omega, by go_num, (unhide HB), G1⟩
          case measure => simp [intOf]; omega
        | false =>
          have e2 : (d.take k).filter (Rot.isMarked r) = (d.take (k + 1)).filter (Rot.isMarked r) := by
            rw [HF.out, hm]; simp
          rw [e2] at A
          have HB := hide A
          clear A hck hlen hm e2
          go_wp2_with fail
          go_roundw
          case rel => exact ⟨k + 1, by omega, by go_num, (unhide HB), G⟩
          case measure => simp [intOf]; omega
      · have hk' : k = d.length := by omega
        subst hk'
        rw [List.take_length] at A
        go_wp2
        go_ret
        exact ⟨_, rfl, A, G⟩

theorem at_zero (d : List Nat) (k : Nat) (hk : k < d.length) : ((d.take (k + 1)).filter fun p => decide (0 < p)) = ((d.take k).filter fun p => decide (0 < p)) ++ if 0 < d[k]'hk then [d[k]'hk] else [] := by
  rw [take_filter_snoc _ d k hk]
  simp

theorem column_snoc (t : List UInt8) (d : List Nat) (k : Nat) (hk : k < d.length) : Rot.columnOf t (d.take (k + 1)) = Rot.columnOf t (d.take k) ++ if 0 < d[k]'hk then [(t[d[k]'hk - 1]?).getD 0] else [] := by
  unfold Rot.columnOf
  rw [at_zero d k hk, List.map_append]
  by_cases h : 0 < d[k]'hk <;> simp [h]
theorem column_len (t : List UInt8) (d : List Nat) : (Rot.columnOf t d).length ≤ d.length := by
  unfold Rot.columnOf
  rw [List.length_map]
  exact List.length_filter_le _ _
theorem byte_at (s : ByteArray) (j : Nat) (hj : j < s.size) : (s.data.toList[j]?).getD 0 = s[j] := by
  have : j < s.data.toList.length := by simpa using hj
  rw [List.getElem?_eq_getElem this]
  rfl

set_option maxRecDepth 100000 in
set_option maxHeartbeats 1000000 in
theorem column_any (B : Nat) (s : ByteArray) (g cap : Nat) (d : List Nat) (w : World) (h : Is w B (.slice (some ⟨g, 0, none⟩) d.length cap) d) (hd : ∀ x ∈ d, x ≤ s.size) (hdl : d.length < 1000) (hs : s.size < 1000) :
    Calls Tryz.prog 93 #[.string s, .slice (some ⟨g, 0, none⟩) d.length cap] w fun e w' => ∃ v', e = .returned v' ∧ Bs w' w.heap.size v' (Rot.columnOf s.data.toList d) ∧ w.grownBy w' none := by
  obtain ⟨i0, hi, hz0, hz1, hz2⟩ := info_parts info8
  have HD := hide hd
  have HU := hide h
  clear hd h
  go_enter Tryz.func93, Tryz.ntmps93
  go_wp2_with (at_make; refine wpList_make_own _ rfl _ _ 45 rfl w.heap.size 5 i0 (.int .u8 0) 1 Tryz.underlying45 hi hz0 hz1 .i64 .i64 _ s.size rfl rfl rfl ?m1 ?m2 (Nat.le_refl _) ?_)
  case m1 => rw [hz2]; omega
  case m2 => unfold maxLen; omega
  intro w0 O0 G0
  have B0 : Bs w0 w.heap.size (.slice (some ⟨w.heap.size, 0, none⟩) 0 s.size) [] := O0
  clear O0
  go_wp2_with fail
  go_loopw [5, 13] (fun u i wr => ∃ k : Nat, k ≤ d.length ∧ i = .int .i64 k ∧ Bs wr w.heap.size u (Rot.columnOf s.data.toList (d.take k)) ∧ w.grownBy wr none) (fun _ i _ => d.length - (intOf i).toNat)
  case atStart => exact ⟨0, Nat.zero_le _, rfl, B0, G0⟩
  case round =>
    obtain ⟨k, hk, rfl, A, G⟩ := hrel
    clear B0 G0
    by_cases hlt : k < d.length
    · have hck := Is.cell (ownsRow_kept0 (unhide HU) G) k hlt
      have hx : d[k]'hlt ≤ s.size := unhide HD _ (List.getElem_mem hlt)
      have hlen : (Rot.columnOf s.data.toList (d.take k)).length < 1000000 := by
        have := column_len s.data.toList (d.take k)
        rw [List.length_take] at this
        omega
      have hsz := G.size
      have HF := hide (column_snoc s.data.toList d k hlt)
      by_cases hp : 0 < d[k]'hlt
      · have hidx : d[k]'hlt - 1 < s.size := by omega
        have HB := hide (byte_at s (d[k]'hlt - 1) hidx)
        generalize hdk : d[k]'hlt = q at hck hx HF hp hidx HB
        clear hdk
        go_wp2_with (at_builtin; refine wp_app1 _ rfl (.tmp 19) (.tmp 24) rfl w.heap.size _ (Rot.columnOf s.data.toList (d.take k)) rfl wr _ rfl rfl A (s[q - 1]) ?b0 hlen hsz ?_)
        case b0 => rfl
        intro u' w1 A1
        have G1 := A1.fresh G A
        have B1 := A1.own
        have e2 : Rot.columnOf s.data.toList (d.take k) ++ [s[q - 1]] = Rot.columnOf s.data.toList (d.take (k + 1)) := by
          rw [unhide HF, if_pos hp, unhide HB]
        rw [e2] at B1
        have HB1 := hide B1
        clear A A1 B1 G hck hlen e2
        go_wp2_with fail
        go_roundw
        case rel => exact ⟨k + 1, by omega, by go_num, unhide HB1, G1⟩
        case measure => simp [intOf]; omega
      · have e2 : Rot.columnOf s.data.toList (d.take k) = Rot.columnOf s.data.toList (d.take (k + 1)) := by
          rw [unhide HF, if_neg hp]; simp
        rw [e2] at A
        have HB1 := hide A
        clear A hlen e2
        go_wp2_with fail
        go_roundw
        case rel => exact ⟨k + 1, by omega, by go_num, unhide HB1, G⟩
        case measure => simp [intOf]; omega
    · have hk' : k = d.length := by omega
      subst hk'
      rw [List.take_length] at A
      go_wp2
      go_ret
      exact ⟨_, rfl, A, G⟩
end Go.Proofs.YthlincikgdblfaaGreat
