import Derived.Test.YthlincikgdblfaaGreatB2
import Derived.Test.YthlincikgdblfaaGreatA9
namespace Go.Proofs.YthlincikgdblfaaGreat
open Go.RowKit
set_option linter.unusedVariables false

theorem infoB : (Tryz.prog.info? 4).map (fun i => (i.zero, i.size, i.bytes)) = some (some (.bool false), 1, 1) := by kernel_rfl
theorem bo_one (l : List Bool) : ∀ u ∈ l.map Value.bool, u.oneCell' = true := by
  intro u hu
  simp only [List.mem_map] at hu
  obtain ⟨b, _, rfl⟩ := hu
  rfl
/-- APPEND OF ONE BOOL, which lies in a new block. -/
theorem wp_appBo (w : World) {ops : Array Oper} {rest : List Oper} {o : Oper} {a : Act} {Q : Exit → Act → World → Prop} (hgd : o.guard = none) (s x : Operand)
    (ho : o.op = .call { callee := .builtin .append, args := #[s, x], argTypes := #[154, 154] })
    (B : Nat) (v : Value) (l : List Bool) (hs : a.eval s = v) (W : World) (b : Bool) (hw : w = W.alloc (.cells #[.bool b] 4)) (hx : a.eval x = .slice (some ⟨W.heap.size, 0, none⟩) 1 1) (hown : Bo W B v l)
    (hl : l.length < 1000000) (hB : B ≤ W.heap.size)
    (h : ∀ v' w', Bo w' B v' (l ++ [b]) → W.grownBy w' v.ownBlock → wpList Tryz.prog ops Q rest (a.put o.dst v') w') : wpList Tryz.prog ops Q (o :: rest) a w := by
  subst hw
  obtain ⟨i0, hi, hz0, hz1, hz2⟩ := info_parts infoB
  refine wpList_append_own_at _ hgd s x 154 ho B 4 i0 (.bool false) 1 1 Tryz.underlying154 hi hz0 hz1 hz2 rfl (by decide) v l.length (l.map Value.bool) hs (World.ownsRow.alloc hown _) ⟨W.heap.size, 0, none⟩ 1 1 ([b].map Value.bool) hx rfl (cell_one_new _ _ _) (bo_one [b]) (by unfold maxLen; omega) (by omega) (by simp; omega) ?_
  intro v' w' h1 h2 h3 h4
  refine h v' w' ?_ (grown_trans (World.grownBy_alloc W _ _) h2 (Or.inl rfl))
  unfold Bo; rw [List.map_append, List.length_append]; exact h1
theorem Bo.fresh {w wr w1 : World} {u : Value} {l : List Bool} (A : Bo wr w.heap.size u l) (G : w.grownBy wr none) (g : wr.grownBy w1 u.ownBlock) : w.grownBy w1 none :=
  grown_trans G g (by
    cases eo : u.ownBlock with
    | none => exact Or.inl rfl
    | some j => exact Or.inr ⟨j, rfl, (World.ownsRow.lt A j eo).1⟩)
theorem extract_one (s : ByteArray) (k : Nat) (hk : k < s.size) : s.extract k (k + 1) = Sb [s[k]'hk] := by
  apply ByteArray.ext
  simp [Sb]
  apply Array.ext'
  rw [Array.toList_extract]
  simp only [List.extract_eq_take_drop, Nat.add_sub_cancel_left]
  rw [List.drop_eq_getElem_cons (by simpa using hk)]
  simp
  rfl
theorem bit_test (i : Nat) (hi : i < 8) (c : UInt8) : ((c.toNat : Int) / ((2 ^ i : Nat) : Int) % 2 == 1) = !(c &&& UInt8.ofNat (2 ^ i) == 0) := by
  have hb : (!(c &&& UInt8.ofNat (2 ^ i) == 0)) = c.toNat.testBit i := by
    have e : (c &&& UInt8.ofNat (2 ^ i) == 0) = ((c &&& UInt8.ofNat (2 ^ i)).toNat == 0) := by
      rw [Bool.eq_iff_iff, beq_iff_eq, beq_iff_eq]
      constructor
      · intro h; rw [h]; rfl
      · intro h; exact UInt8.toNat_inj.1 h
    rw [e, UInt8.toNat_and, Rot.pow_byte _ hi]
    generalize c.toNat = x
    cases hx : x.testBit i with
    | true =>
      have h1 : (x &&& 2 ^ i).testBit i = true := by rw [Nat.testBit_and, hx, Nat.testBit_two_pow]; simp
      have h0 : x &&& 2 ^ i ≠ 0 := by
        intro e0
        rw [e0] at h1
        simp at h1
      simp [h0]
    | false =>
      have h0 : x &&& 2 ^ i = 0 := by
        apply Nat.eq_of_testBit_eq
        intro j
        rw [Nat.testBit_and, Nat.testBit_two_pow]
        by_cases hj : i = j
        · subst hj; simp [hx]
        · simp [hj]
      simp [h0]
  rw [hb, Nat.testBit_eq_decide_div_mod_eq, Bool.eq_iff_iff, beq_iff_eq, decide_eq_true_iff]
  rw [← Int.natCast_ediv]
  omega

/-- Behind k bytes of a level. -/
def LevV (w : World) (s : ByteArray) (m : UInt8) (lv no yes i : Value) (wr : World) : Prop := ∃ k : Nat, k ≤ s.size ∧ i = .int .i64 (k : Int) ∧ Bo wr w.heap.size lv ((s.data.toList.take k).map fun c => !(c &&& m == 0)) ∧ no = .string (Sb (Rot.zerosOf m (s.data.toList.take k))) ∧ yes = .string (Sb (Rot.onesOf m (s.data.toList.take k))) ∧ w.grownBy wr none
theorem LevV.mk {w : World} {s : ByteArray} {m : UInt8} {lv no yes i : Value} {wr : World} (k : Nat) (h1 : k ≤ s.size) (h2 : i = .int .i64 (k : Int)) (h3 : Bo wr w.heap.size lv ((s.data.toList.take k).map fun c => !(c &&& m == 0))) (h4 : no = .string (Sb (Rot.zerosOf m (s.data.toList.take k)))) (h5 : yes = .string (Sb (Rot.onesOf m (s.data.toList.take k)))) (h6 : w.grownBy wr none) : LevV w s m lv no yes i wr := ⟨k, h1, h2, h3, h4, h5, h6⟩

set_option maxRecDepth 100000 in
set_option maxHeartbeats 1000000 in
theorem rlevel_any (s : ByteArray) (i v : Nat) (m : UInt8) (w : World) (hi : i < 8) (hv : v = 2 ^ i) (hm : m = UInt8.ofNat v) (hs : s.size ≤ 250) :
    Calls Tryz.prog 105 #[.string s, .int .i64 v] w fun e w' => e = .returned (.tuple #[.string (Sb (Rot.levelOf m s.data.toList)), .string (Sb (Rot.nextOf m s.data.toList))]) ∧ w.grownBy w' none := by
  have hv2 : v ≤ 256 := by
    have h8 : 2 ^ i ≤ 2 ^ 8 := Nat.pow_le_pow_right (by decide) (by omega)
    rw [hv]; exact h8
  have hv1 : 1 ≤ v := by rw [hv]; exact Nat.two_pow_pos _
  have hv0 : ((v : Int) == 0) = false := by simp; omega
  have HT : Hid (∀ c : UInt8, ((c.toNat : Int) / (v : Int) % 2 == 1) = !(c &&& m == 0)) := by
    intro c
    rw [hm, hv]
    exact bit_test i hi c
  clear hv hm
  have hl : s.data.toList.length = s.size := by simp
  go_enter Tryz.func105, Tryz.ntmps105
  go_wp2_with fail
  go_loopw [6, 7, 8, 9, 10] (fun lv no yes i _one wr => LevV w s m lv no yes i wr) (fun _ _ _ i _ _ => s.size - (intOf i).toNat)
  case atStart => exact LevV.mk 0 (Nat.zero_le _) rfl (World.ownsRow_nil _ _ _ _) rfl rfl (World.grownBy.refl _ _)
  case round =>
    obtain ⟨k, hk, rfl, L, rfl, rfl, G⟩ := hrel
    have zl := zeros_len m (s.data.toList.take k)
    have ol := ones_len m (s.data.toList.take k)
    rw [List.length_take] at zl ol
    have z1 : (Sb (Rot.zerosOf m (s.data.toList.take k))).size ≤ 1000 := Sb_le (by omega)
    have z2 : (Sb (Rot.onesOf m (s.data.toList.take k))).size ≤ 1000 := Sb_le (by omega)
    by_cases hlt : k < s.size
    · have htest := unhide HT (s[k]'hlt)
      have hbt := (s[k]'hlt).toNat_lt
      obtain ⟨q, hq⟩ : ∃ q : Nat, q = (s[k]'hlt).toNat / v := ⟨_, rfl⟩
      have hqi : ((s[k]'hlt).toNat : Int) / (v : Int) = (q : Int) := by rw [hq, Int.natCast_ediv]
      have hq2 : q ≤ 255 := by
        have := Nat.div_le_self (s[k]'hlt).toNat v
        omega
      rw [hqi] at htest
      clear hq
      have hsz := G.size
      have HM := hide (map_snoc (fun c : UInt8 => !(c &&& m == 0)) s.data.toList k (by omega))
      have HZ := hide (take_filter_snoc (fun c : UInt8 => c &&& m == 0) s.data.toList k (by omega))
      have HO := hide (take_filter_snoc (fun c : UInt8 => !(c &&& m == 0)) s.data.toList k (by omega))
      have HK : Hid (∀ h, s.data.toList[k]'h = s[k]'hlt) := fun _ => rfl
      have hex := extract_one s k hlt
      have hll : ((s.data.toList.take k).map fun c => !(c &&& m == 0)).length < 1000000 := by rw [List.length_map, List.length_take]; omega
      have z3 : (Sb [s[k]'hlt]).size ≤ 1 := Sb_le (by simp)
      clear zl ol
      cases hb : ((s[k]'hlt) &&& m == 0) with
      | true =>
        rw [hb] at htest
        simp only [Bool.not_true] at htest
        have HBB := hide hb
        clear hb
        have HA := hide (Sb_append (Rot.zerosOf m (s.data.toList.take k)) [s[k]'hlt])
        go_wp2_with (at_builtin; refine wp_appBo _ rfl (.tmp 25) (.tmp 27) rfl w.heap.size _ ((s.data.toList.take k).map fun c => !(c &&& m == 0)) rfl wr false rfl rfl L hll hsz ?_)
        intro v1 w1 L1 g1
        have HG1 := hide (L.fresh G g1)
        have HL1 := hide L1
        clear L G L1 g1
        go_wp2_with fail
        go_roundw
        case rel =>
          have q1 : Bo w1 w.heap.size v1 ((s.data.toList.take (k + 1)).map fun c => !(c &&& m == 0)) := by
            rw [unhide HM, unhide HK, unhide HBB]
            have hh := unhide HL1
            try rw [← List.map_take] at hh
            exact hh
          have q2 : Rot.zerosOf m (s.data.toList.take (k + 1)) = Rot.zerosOf m (s.data.toList.take k) ++ [s[k]'hlt] := by
            unfold Rot.zerosOf
            rw [unhide HZ, unhide HK, unhide HBB]; rfl
          have q3 : Rot.onesOf m (s.data.toList.take (k + 1)) = Rot.onesOf m (s.data.toList.take k) := by
            unfold Rot.onesOf
            rw [unhide HO, unhide HK, unhide HBB]; simp
          first | exact LevV.mk (k + 1) (by omega) (by go_num) q1 (by rw [q2, ← unhide HA]) (by rw [q3]) (unhide HG1) | (repeat apply Exists.intro; refine ⟨?_, rfl⟩; exact LevV.mk (k + 1) (by omega) (by go_num) q1 (by rw [q2, ← unhide HA]) (by rw [q3]) (unhide HG1))
        case measure => simp [intOf]; omega
      | false =>
        rw [hb] at htest
        simp only [Bool.not_false] at htest
        have HBB := hide hb
        clear hb
        have HA := hide (Sb_append (Rot.onesOf m (s.data.toList.take k)) [s[k]'hlt])
        go_wp2_with (at_builtin; refine wp_appBo _ rfl (.tmp 25) (.tmp 27) rfl w.heap.size _ ((s.data.toList.take k).map fun c => !(c &&& m == 0)) rfl wr true rfl rfl L hll hsz ?_)
        intro v1 w1 L1 g1
        have HG1 := hide (L.fresh G g1)
        have HL1 := hide L1
        clear L G L1 g1
        go_wp2_with fail
        go_roundw
        case rel =>
          have q1 : Bo w1 w.heap.size v1 ((s.data.toList.take (k + 1)).map fun c => !(c &&& m == 0)) := by
            rw [unhide HM, unhide HK, unhide HBB]
            have hh := unhide HL1
            try rw [← List.map_take] at hh
            exact hh
          have q2 : Rot.onesOf m (s.data.toList.take (k + 1)) = Rot.onesOf m (s.data.toList.take k) ++ [s[k]'hlt] := by
            unfold Rot.onesOf
            rw [unhide HO, unhide HK, unhide HBB]; rfl
          have q3 : Rot.zerosOf m (s.data.toList.take (k + 1)) = Rot.zerosOf m (s.data.toList.take k) := by
            unfold Rot.zerosOf
            rw [unhide HZ, unhide HK, unhide HBB]; simp
          first | exact LevV.mk (k + 1) (by omega) (by go_num) q1 (by rw [q3]) (by rw [q2, ← unhide HA]) (unhide HG1) | (repeat apply Exists.intro; refine ⟨?_, rfl⟩; exact LevV.mk (k + 1) (by omega) (by go_num) q1 (by rw [q3]) (by rw [q2, ← unhide HA]) (unhide HG1))
        case measure => simp [intOf]; omega
    · have e : s.data.toList.take k = s.data.toList := List.take_of_length_le (by omega)
      rw [e] at L z1 z2 ⊢
      have zl2 := zeros_len m s.data.toList
      have HL := hide L
      have HG := hide G
      have zsz := Sb_size (Rot.zerosOf m s.data.toList)
      clear e L G zl ol
      generalize hZ : Rot.zerosOf m s.data.toList = Z at z1 zl2 zsz ⊢
      generalize hO : Rot.onesOf m s.data.toList = O at z2 ⊢
      have HZ := hide hZ
      have HO := hide hO
      clear hZ hO
      go_wp2_with fail
      refine (two_any Z.length _ (by omega)).mono ?_
      rintro e w1 ⟨rfl, G1⟩
      have L1 := ownsRow_kept0 (unhide HL) G1
      have HG1 := hide (grown_trans (unhide HG) G1 (Or.inl rfl))
      clear G1 HL HG
      go_wp2_with fail
      refine (rbits_any w.heap.size _ (s.data.toList.map fun c => !(c &&& m == 0)) _ L1 (by rw [List.length_map]; omega)).mono ?_
      rintro e w2 ⟨rfl, G2⟩
      have HG2 := hide (grown_trans (unhide HG1) G2 (Or.inl rfl))
      have z4 := Sb_two Z.length
      have z5 : (Sb (Rot.bitsOf (s.data.toList.map fun c => !(c &&& m == 0)))).size ≤ 1000 := Sb_le (by rw [bits_len, List.length_map]; omega)
      have HE1 := hide (Sb_append (Rot.le16 Z.length) (Rot.bitsOf (s.data.toList.map fun c => !(c &&& m == 0))))
      have HE2 := hide (Sb_append Z O)
      clear G2 HG1 L1
      generalize hbb : Rot.bitsOf (s.data.toList.map fun c => !(c &&& m == 0)) = BB at z5 HE1 ⊢
      have HBB := hide hbb
      clear hbb
      go_wp2_with fail
      go_ret2
      refine ⟨?_, unhide HG2⟩
      unfold Rot.levelOf Rot.nextOf
      rw [unhide HZ, unhide HO, unhide HBB, ← unhide HE1, ← unhide HE2]
      rfl
end Go.Proofs.YthlincikgdblfaaGreat
