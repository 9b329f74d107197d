import Derived.Test.YthlincikgdblfaaGreatZ15
import Derived.Test.YthlincikgdblfaaGreatZ07
import Derived.Laws.Cover3
namespace Go.Proofs.YthlincikgdblfaaGreat
open Go.RowKit
set_option linter.unusedVariables false

theorem infoB : (Tryz.prog.info? 4).map (fun i => (i.zero, i.size, i.bytes)) = some (some (.bool false), 1, 1) := by kernel_rfl
theorem bo_one (l : List Bool) : ∀ u ∈ l.map Value.bool, u.oneCell' = true := by
  intro u hu
  simp only [List.mem_map] at hu
  obtain ⟨b, _, rfl⟩ := hu
  rfl
/-- APPEND OF ONE BOOL, which lies in a new block. -/
theorem wp_appBo (w : World) {ops : Array Oper} {rest : List Oper} {o : Oper} {a : Act} {Q : Exit → Act → World → Prop} (hgd : o.guard = none) (s x : Operand)
    (ho : o.op = .call { callee := .builtin .append, args := #[s, x], argTypes := #[154, 154] })
    (B : Nat) (v : Value) (l : List Bool) (hs : a.eval s = v) (W : World) (b : Bool) (hw : w = W.alloc (.cells #[.bool b] 4)) (hx : a.eval x = .slice (some ⟨W.heap.size, 0, none⟩) 1 1) (hown : Bo W B v l)
    (hl : l.length < 1000000) (hB : B ≤ W.heap.size)
    (h : ∀ v' w', Bo w' B v' (l ++ [b]) → W.grownBy w' v.ownBlock → wpList Tryz.prog ops Q rest (a.put o.dst v') w') : wpList Tryz.prog ops Q (o :: rest) a w := by
  subst hw
  obtain ⟨i0, hi, hz0, hz1, hz2⟩ := info_parts infoB
  refine wpList_append_own_at _ hgd s x 154 ho B 4 i0 (.bool false) 1 1 Tryz.underlying154 hi hz0 hz1 hz2 rfl (by decide) v l.length (l.map Value.bool) hs (World.ownsRow.alloc hown _) ⟨W.heap.size, 0, none⟩ 1 1 ([b].map Value.bool) hx rfl (cell_one_new _ _ _) (bo_one [b]) (by unfold maxLen; omega) (by omega) (by simp; omega) ?_
  intro v' w' h1 h2 h3 h4
  refine h v' w' ?_ (grown_trans (World.grownBy_alloc W _ _) h2 (Or.inl rfl))
  unfold Bo; rw [List.map_append, List.length_append]; exact h1
theorem Bo.fresh {w wr w1 : World} {u : Value} {l : List Bool} (A : Bo wr w.heap.size u l) (G : w.grownBy wr none) (g : wr.grownBy w1 u.ownBlock) : w.grownBy w1 none :=
  grown_trans G g (by
    cases eo : u.ownBlock with
    | none => exact Or.inl rfl
    | some j => exact Or.inr ⟨j, rfl, (World.ownsRow.lt A j eo).1⟩)
theorem extract_one (s : ByteArray) (k : Nat) (hk : k < s.size) : s.extract k (k + 1) = Sb [s[k]'hk] := by
  apply ByteArray.ext
  simp [Sb]
  apply Array.ext'
  rw [Array.toList_extract]
  simp only [List.extract_eq_take_drop, Nat.add_sub_cancel_left]
  rw [List.drop_eq_getElem_cons (by simpa using hk)]
  simp
  rfl
theorem bit_test (i : Nat) (hi : i < 8) (c : UInt8) : ((c.toNat : Int) / ((2 ^ i : Nat) : Int) % 2 == 1) = !(c &&& UInt8.ofNat (2 ^ i) == 0) := by
  have hb : (!(c &&& UInt8.ofNat (2 ^ i) == 0)) = c.toNat.testBit i := by
    have e : (c &&& UInt8.ofNat (2 ^ i) == 0) = ((c &&& UInt8.ofNat (2 ^ i)).toNat == 0) := by
      rw [Bool.eq_iff_iff, beq_iff_eq, beq_iff_eq]
      constructor
      · intro h; rw [h]; rfl
      · intro h; exact UInt8.toNat_inj.1 h
    rw [e, UInt8.toNat_and, Rot.pow_byte _ hi]
    generalize c.toNat = x
    cases hx : x.testBit i with
    | true =>
      have h1 : (x &&& 2 ^ i).testBit i = true := by rw [Nat.testBit_and, hx, Nat.testBit_two_pow]; simp
      have h0 : x &&& 2 ^ i ≠ 0 := by
        intro e0
        rw [e0] at h1
        simp at h1
      simp [h0]
    | false =>
      have h0 : x &&& 2 ^ i = 0 := by
        apply Nat.eq_of_testBit_eq
        intro j
        rw [Nat.testBit_and, Nat.testBit_two_pow]
        by_cases hj : i = j
        · subst hj; simp [hx]
        · simp [hj]
      simp [h0]
  rw [hb, Nat.testBit_eq_decide_div_mod_eq, Bool.eq_iff_iff, beq_iff_eq, decide_eq_true_iff]
  rw [← Int.natCast_ediv]
  omega

/-- Behind k bytes of a level. -/
def LevV (w : World) (s : ByteArray) (m : UInt8) (lv no yes i : Value) (wr : World) : Prop := ∃ k : Nat, k ≤ s.size ∧ i = .int .i64 (k : Int) ∧ Bo wr w.heap.size lv ((s.data.toList.take k).map fun c => !(c &&& m == 0)) ∧ no = .string (Sb (Rot.zerosOf m (s.data.toList.take k))) ∧ yes = .string (Sb (Rot.onesOf m (s.data.toList.take k))) ∧ w.grownBy wr none
theorem LevV.mk {w : World} {s : ByteArray} {m : UInt8} {lv no yes i : Value} {wr : World} (k : Nat) (h1 : k ≤ s.size) (h2 : i = .int .i64 (k : Int)) (h3 : Bo wr w.heap.size lv ((s.data.toList.take k).map fun c => !(c &&& m == 0))) (h4 : no = .string (Sb (Rot.zerosOf m (s.data.toList.take k)))) (h5 : yes = .string (Sb (Rot.onesOf m (s.data.toList.take k)))) (h6 : w.grownBy wr none) : LevV w s m lv no yes i wr := ⟨k, h1, h2, h3, h4, h5, h6⟩

set_option maxRecDepth 100000 in
set_option maxHeartbeats 1000000 in
theorem rlevel_any (s : ByteArray) (i v : Nat) (m : UInt8) (w : World) (hi : i < 8) (hv : v = 2 ^ i) (hm : m = UInt8.ofNat v) (hs : s.size ≤ 250) :
    Calls Tryz.prog 105 #[.string s, .int .i64 v] w fun e w' => e = .returned (.tuple #[.string (Sb (Rot.levelOf m s.data.toList)), .string (Sb (Rot.nextOf m s.data.toList))]) ∧ w.grownBy w' none := by
  have hv2 : v ≤ 256 := by
    have h8 : 2 ^ i ≤ 2 ^ 8 := Nat.pow_le_pow_right (by decide) (by omega)
    rw [hv]; exact h8
  have hv1 : 1 ≤ v := by rw [hv]; exact Nat.two_pow_pos _
  have hv0 : ((v : Int) == 0) = false := by simp; omega
  have HT : Hid (∀ c : UInt8, ((c.toNat : Int) / (v : Int) % 2 == 1) = !(c &&& m == 0)) := by
    intro c
    rw [hm, hv]
    exact bit_test i hi c
  clear hv hm
  have hl : s.data.toList.length = s.size := by simp
  go_enter Tryz.func105, Tryz.ntmps105
  go_wp2_with fail
  go_loopw [6, 7, 8, 9, 10] (fun lv no yes i _one wr => LevV w s m lv no yes i wr) (fun _ _ _ i _ _ => s.size - (intOf i).toNat)
  case atStart => exact LevV.mk 0 (Nat.zero_le _) rfl (World.ownsRow_nil _ _ _ _) rfl rfl (World.grownBy.refl _ _)
  case round =>
    obtain ⟨k, hk, rfl, L, rfl, rfl, G⟩ := hrel
    have zl := zeros_len m (s.data.toList.take k)
    have ol := ones_len m (s.data.toList.take k)
    rw [List.length_take] at zl ol
    have z1 : (Sb (Rot.zerosOf m (s.data.toList.take k))).size ≤ 1000 := Sb_le (by omega)
    have z2 : (Sb (Rot.onesOf m (s.data.toList.take k))).size ≤ 1000 := Sb_le (by omega)
    by_cases hlt : k < s.size
    · have htest := unhide HT (s[k]'hlt)
      have hbt := (s[k]'hlt).toNat_lt
      obtain ⟨q, hq⟩ : ∃ q : Nat, q = (s[k]'hlt).toNat / v := ⟨_, rfl⟩
      have hqi : ((s[k]'hlt).toNat : Int) / (v : Int) = (q : Int) := by rw [hq, Int.natCast_ediv]
      have hq2 : q ≤ 255 := by
        have := Nat.div_le_self (s[k]'hlt).toNat v
        omega
      rw [hqi] at htest
      clear hq
      have hsz := G.size
      have HM := hide (map_snoc (fun c : UInt8 => !(c &&& m == 0)) s.data.toList k (by omega))
      have HZ := hide (take_filter_snoc (fun c : UInt8 => c &&& m == 0) s.data.toList k (by omega))
      have HO := hide (take_filter_snoc (fun c : UInt8 => !(c &&& m == 0)) s.data.toList k (by omega))
      have HK : Hid (∀ h, s.data.toList[k]'h = s[k]'hlt) := fun _ => rfl
      have hex := extract_one s k hlt
      have hll : ((s.data.toList.take k).map fun c => !(c &&& m == 0)).length < 1000000 := by rw [List.length_map, List.length_take]; omega
      have z3 : (Sb [s[k]'hlt]).size ≤ 1 := Sb_le (by simp)
      clear zl ol
      cases hb : ((s[k]'hlt) &&& m == 0) with
      | true =>
        rw [hb] at htest
        simp only [Bool.not_true] at htest
        have HBB := hide hb
        clear hb
        have HA := hide (Sb_append (Rot.zerosOf m (s.data.toList.take k)) [s[k]'hlt])
        go_wp2_with (at_builtin; refine wp_appBo _ rfl (.tmp 25) (.tmp 27) rfl w.heap.size _ ((s.data.toList.take k).map fun c => !(c &&& m == 0)) rfl wr false rfl rfl L hll hsz ?_)
        intro v1 w1 L1 g1
        have HG1 := hide (L.fresh G g1)
        have HL1 := hide L1
        clear L G L1 g1
        go_wp2_with fail
        go_roundw
        case rel =>
          have q1 : Bo w1 w.heap.size v1 ((s.data.toList.take (k + 1)).map fun c => !(c &&& m == 0)) := by
            rw [unhide HM, unhide HK, unhide HBB]
            have hh := unhide HL1
            try rw [← List.map_take] at hh
            exact hh
          have q2 : Rot.zerosOf m (s.data.toList.take (k + 1)) = Rot.zerosOf m (s.data.toList.take k) ++ [s[k]'hlt] := by
            unfold Rot.zerosOf
            rw [unhide HZ, unhide HK, unhide HBB]; rfl
          have q3 : Rot.onesOf m (s.data.toList.take (k + 1)) = Rot.onesOf m (s.data.toList.take k) := by
            unfold Rot.onesOf
            rw [unhide HO, unhide HK, unhide HBB]; simp
          first | exact LevV.mk (k + 1) (by omega) (by go_num) q1 (by rw [q2, ← unhide HA]) (by rw [q3]) (unhide HG1) | (repeat apply Exists.intro; refine ⟨?_, rfl⟩; exact LevV.mk (k + 1) (by omega) (by go_num) q1 (by rw [q2, ← unhide HA]) (by rw [q3]) (unhide HG1))
        case measure => simp [intOf]; omega
      | false =>
        rw [hb] at htest
        simp only [Bool.not_false] at htest
        have HBB := hide hb
        clear hb
        have HA := hide (Sb_append (Rot.onesOf m (s.data.toList.take k)) [s[k]'hlt])
        go_wp2_with (at_builtin; refine wp_appBo _ rfl (.tmp 25) (.tmp 27) rfl w.heap.size _ ((s.data.toList.take k).map fun c => !(c &&& m == 0)) rfl wr true rfl rfl L hll hsz ?_)
        intro v1 w1 L1 g1
        have HG1 := hide (L.fresh G g1)
        have HL1 := hide L1
        clear L G L1 g1
        go_wp2_with fail
        go_roundw
        case rel =>
          have q1 : Bo w1 w.heap.size v1 ((s.data.toList.take (k + 1)).map fun c => !(c &&& m == 0)) := by
            rw [unhide HM, unhide HK, unhide HBB]
            have hh := unhide HL1
            try rw [← List.map_take] at hh
            exact hh
          have q2 : Rot.onesOf m (s.data.toList.take (k + 1)) = Rot.onesOf m (s.data.toList.take k) ++ [s[k]'hlt] := by
            unfold Rot.onesOf
            rw [unhide HO, unhide HK, unhide HBB]; rfl
          have q3 : Rot.zerosOf m (s.data.toList.take (k + 1)) = Rot.zerosOf m (s.data.toList.take k) := by
            unfold Rot.zerosOf
            rw [unhide HZ, unhide HK, unhide HBB]; simp
          first | exact LevV.mk (k + 1) (by omega) (by go_num) q1 (by rw [q3]) (by rw [q2, ← unhide HA]) (unhide HG1) | (repeat apply Exists.intro; refine ⟨?_, rfl⟩; exact LevV.mk (k + 1) (by omega) (by go_num) q1 (by rw [q3]) (by rw [q2, ← unhide HA]) (unhide HG1))
        case measure => simp [intOf]; omega
    · have e : s.data.toList.take k = s.data.toList := List.take_of_length_le (by omega)
      rw [e] at L z1 z2 ⊢
      have zl2 := zeros_len m s.data.toList
      have HL := hide L
      have HG := hide G
      have zsz := Sb_size (Rot.zerosOf m s.data.toList)
      clear e L G zl ol
      generalize hZ : Rot.zerosOf m s.data.toList = Z at z1 zl2 zsz ⊢
      generalize hO : Rot.onesOf m s.data.toList = O at z2 ⊢
      have HZ := hide hZ
      have HO := hide hO
      clear hZ hO
      go_wp2_with fail
      refine (two_any Z.length _ (by omega)).mono ?_
      rintro e w1 ⟨rfl, G1⟩
      have L1 := ownsRow_kept0 (unhide HL) G1
      have HG1 := hide (grown_trans (unhide HG) G1 (Or.inl rfl))
      clear G1 HL HG
      go_wp2_with fail
      refine (rbits_any w.heap.size _ (s.data.toList.map fun c => !(c &&& m == 0)) _ L1 (by rw [List.length_map]; omega)).mono ?_
      rintro e w2 ⟨rfl, G2⟩
      have HG2 := hide (grown_trans (unhide HG1) G2 (Or.inl rfl))
      have z4 := Sb_two Z.length
      have z5 : (Sb (Rot.bitsOf (s.data.toList.map fun c => !(c &&& m == 0)))).size ≤ 1000 := Sb_le (by rw [bits_len, List.length_map]; omega)
      have HE1 := hide (Sb_append (Rot.le16 Z.length) (Rot.bitsOf (s.data.toList.map fun c => !(c &&& m == 0))))
      have HE2 := hide (Sb_append Z O)
      clear G2 HG1 L1
      generalize hbb : Rot.bitsOf (s.data.toList.map fun c => !(c &&& m == 0)) = BB at z5 HE1 ⊢
      have HBB := hide hbb
      clear hbb
      go_wp2_with fail
      go_ret2
      refine ⟨?_, unhide HG2⟩
      unfold Rot.levelOf Rot.nextOf
      rw [unhide HZ, unhide HO, unhide HBB, ← unhide HE1, ← unhide HE2]
      rfl
end Go.Proofs.YthlincikgdblfaaGreat

namespace Go.Proofs.YthlincikgdblfaaGreat
set_option linter.unusedVariables false
namespace Rot
/-- The k-th bit of those that stand from place f on. -/
def bitAt (s : List UInt8) (f k : Nat) : Nat := ((s[f + k / 8]?).getD 0).toNat / 2 ^ (k % 8) % 2
theorem bitAt_lt (s : List UInt8) (f k : Nat) : bitAt s f k < 2 := Nat.mod_lt _ (by decide)
/-- How many of the first k bits are 0. -/
def zs (s : List UInt8) (f : Nat) : Nat → Nat
  | 0 => 0
  | k + 1 => zs s f k + (1 - bitAt s f k)
theorem zs_le (s : List UInt8) (f : Nat) : ∀ k, zs s f k ≤ k
  | 0 => Nat.le_refl _
  | k + 1 => by have := zs_le s f k; simp only [zs]; omega
theorem zs_mono (s : List UInt8) (f k : Nat) : ∀ d, zs s f k ≤ zs s f (k + d) ∧ zs s f (k + d) ≤ zs s f k + d
  | 0 => by simp
  | d + 1 => by
    have := zs_mono s f k d
    have e : zs s f (k + (d + 1)) = zs s f (k + d) + (1 - bitAt s f (k + d)) := rfl
    omega
/-- Where bit k goes behind a level. -/
def nxt (s : List UInt8) (f n k : Nat) : Nat := if bitAt s f k = 0 then zs s f k else zs s f n + k - zs s f k
theorem nxt_lt (s : List UInt8) (f n k : Nat) (hk : k < n) : nxt s f n k < n := by
  obtain ⟨d, rfl⟩ : ∃ d, n = k + 1 + d := ⟨n - (k + 1), by omega⟩
  have h1 := zs_mono s f (k + 1) d
  have h2 : zs s f (k + 1) = zs s f k + (1 - bitAt s f k) := rfl
  have h3 := zs_le s f k
  have h4 := bitAt_lt s f k
  unfold nxt
  split <;> omega
/-- Where place j of the column is at level l. -/
def posn (s : List UInt8) (at' n j : Nat) : Nat → Nat
  | 0 => j
  | l + 1 => nxt s (at' + l * (2 + (n + 7) / 8 + 2 * ((n + 15) / 16)) + 2) n (posn s at' n j l)
theorem posn_lt (s : List UInt8) (at' n j : Nat) (hj : j < n) : ∀ l, posn s at' n j l < n
  | 0 => hj
  | l + 1 => nxt_lt _ _ _ _ (posn_lt s at' n j hj l)
/-- What its first l bits say. -/
def code (s : List UInt8) (at' n j : Nat) : Nat → Nat
  | 0 => 0
  | l + 1 => 2 * code s at' n j l + bitAt s (at' + l * (2 + (n + 7) / 8 + 2 * ((n + 15) / 16)) + 2) (posn s at' n j l)
theorem code_lt (s : List UInt8) (at' n j : Nat) : ∀ l, code s at' n j l < 2 ^ l
  | 0 => by simp [code]
  | l + 1 => by
    have h1 := code_lt s at' n j l
    have h2 := bitAt_lt s (at' + l * (2 + (n + 7) / 8 + 2 * ((n + 15) / 16)) + 2) (posn s at' n j l)
    simp only [code]
    rw [Nat.pow_succ]
    omega
/-- The column that a tree says. -/
def colRead (s : List UInt8) (at' n : Nat) : List UInt8 := (List.range n).map fun j => UInt8.ofNat (code s at' n j 8)
end Rot
open Go.RowKit

theorem toList_at (s : ByteArray) (j : Nat) (hj : j < s.size) : ((s.data.toList[j]?).getD 0).toNat = (s[j]'hj).toNat := by rw [byte_at s j hj]
theorem idx_str (s : ByteArray) (k : Nat) (hk : k < s.size) (z : Int) (hz : z = (k : Int)) (w : World) : (Instr.index 9 (.string s) (.int .i64 z)).run Tryz.prog w = .ok (.int .u8 ((s[k]'hk).toNat : Int)) w := by
  subst hz
  have hg : s[k]? = some (s[k]'hk) := getElem?_pos s k hk
  simp [Instr.index, run_underlying Tryz.underlying9, asIntOf, hg, go_sem]
theorem rnumber_any (s : ByteArray) (k : Nat) (w : World) (hk : k + 1 < s.size) (hs : s.size ≤ 4000) :
    Calls Tryz.prog 141 #[.string s, .int .i64 k] w fun e w' => e = .returned (.int .i64 ((s[k]'(by omega)).toNat + 256 * (s[k + 1]'hk).toNat : Nat)) ∧ ∃ m, w' = w.drewN m := by
  have h0 := (s[k]'(by omega)).toNat_lt
  have h1 := (s[k + 1]'hk).toNat_lt
  have i0 := idx_str s k (by omega) (k : Int) rfl
  have i1 := idx_str s (k + 1) hk ((k : Int) + 1) (by omega)
  go_enter Tryz.func141, Tryz.ntmps141
  go_wp2_with fail
  go_quiet (fail)
  go_wp2_with fail
  go_ret
  exact ⟨ret_int (by omega), _, rfl⟩
/-- Behind i halvings. -/
def HalfV (x k : Nat) (b i : Value) : Prop := ∃ q v : Nat, q ≤ k % 8 ∧ i = .int .i64 (q : Int) ∧ b = .int .i64 (v : Int) ∧ v ≤ 255 ∧ Hid (v = x / 2 ^ q)
theorem HalfV.mk {x k : Nat} {b i : Value} (q v : Nat) (h1 : q ≤ k % 8) (h2 : i = .int .i64 (q : Int)) (h3 : b = .int .i64 (v : Int)) (h4 : v ≤ 255) (h5 : v = x / 2 ^ q) : HalfV x k b i := ⟨q, v, h1, h2, h3, h4, h5⟩
theorem rbit_any (s : ByteArray) (f k : Nat) (w : World) (hk : f + k / 8 < s.size) (hs : s.size ≤ 4000) :
    Calls Tryz.prog 157 #[.string s, .int .i64 f, .int .i64 k] w fun e w' => e = .returned (.int .i64 (Rot.bitAt s.data.toList f k : Nat)) ∧ w' = w := by
  have hx := (s[f + k / 8]'hk).toNat_lt
  have hkk : k ≤ 40000 := by omega
  have HB : Hid (Rot.bitAt s.data.toList f k = (s[f + k / 8]'hk).toNat / 2 ^ (k % 8) % 2) := by unfold Rot.bitAt; rw [toList_at s _ hk]; exact rfl
  have hi := idx_str s (f + k / 8) hk ((f : Int) + (k : Int) / 8) (by omega)
  generalize (s[f + k / 8]'hk).toNat = x at hx HB hi
  go_enter Tryz.func157, Tryz.ntmps157
  go_wp2_with fail
  go_loop [7, 8] (fun b i => HalfV x k b i) (fun _ i => k % 8 - (intOf i).toNat)
  case atStart => exact HalfV.mk 0 x (Nat.zero_le _) rfl rfl (by omega) (by simp)
  case round =>
    obtain ⟨q, v, hq, rfl, rfl, hv, HV⟩ := hrel
    by_cases hlt : q < k % 8
    · have HV2 : Hid (v / 2 = x / 2 ^ (q + 1)) := by
        refine hide ?_
        rw [unhide HV, Nat.pow_succ, Nat.div_div_eq_div_mul]
      go_wp2_with fail
      go_round
      case rel => exact HalfV.mk (q + 1) (v / 2) (by omega) (by go_num) (by go_num) (by omega) (unhide HV2)
      case measure => simp [intOf]; omega
    · have eq : q = k % 8 := by omega
      have HV2 : Hid (v % 2 = x / 2 ^ (k % 8) % 2) := by
        refine hide ?_
        rw [unhide HV, eq]
      clear HV
      go_wp2_with fail
      go_ret
      refine ⟨ret_int ?_, rfl⟩
      rw [unhide HB, ← unhide HV2]
      omega
end Go.Proofs.YthlincikgdblfaaGreat

namespace Go.Proofs.YthlincikgdblfaaGreat
open Go.RowKit
set_option linter.unusedVariables false

theorem eql_nil {P : Program} (w : World) (t e : TypeId) (a : Option Addr) (l c : Nat) (h : P.underlying t = some (.slice e)) : (binOp .eql t (.slice a l c) (.slice none 0 0)).run P w = .ok (.bool a.isNone) w := by
  simp only [binOp]
  simp [run_equal_slice_nil w t e a l c h]
set_option maxRecDepth 100000 in
/-- A copy of a piece. -/
theorem clone_any (g : Nat) (v : Value) (l : List UInt8) (w : World) (h : Vw w g v l) (hg : g < w.heap.size) (hl : l.length < 100000) :
    Calls Tryz.prog 144 #[v] w fun e w' => ∃ v', e = .returned v' ∧ Bs w' w.heap.size v' l ∧ w.grownBy w' none := by
  obtain ⟨off, cap, rfl, h2, h3, hc⟩ := h
  obtain ⟨i0, hi, hz0, hz1, hz2⟩ := info_parts info8
  have HC := hide hc
  clear hc
  have heq := fun w => eql_nil (P := Tryz.prog) w 45 5 (some ⟨g, off, none⟩) l.length cap Tryz.underlying45
  go_enter Tryz.func144, Tryz.ntmps144
  go_wp2_with (at_builtin; refine wpList_append_own_at _ rfl (.tmp 5) (.tmp 6) 45 rfl w.heap.size 5 i0 (.int .u8 0) 1 1 Tryz.underlying45 hi hz0 hz1 hz2 rfl (by decide) _ 0 [] rfl ?own ⟨g, off, none⟩ l.length cap (by8 l) rfl ?len ?cells (by8_one l) ?m1 ?m2 ?m3 ?_)
  case own => exact World.ownsRow_lit (e := 5) (size := 1) w #[] 0 (Nat.le_refl w.heap.size) (by unfold maxLen; omega) rfl
  case len => rw [by8_length]; omega
  case cells =>
    intro j u hu
    rw [addr_add2]
    obtain ⟨hj, he⟩ := List.getElem?_eq_some_iff.1 hu
    have hj2 : j < l.length := by rwa [by8_length] at hj
    have hcj := unhide HC j hj2
    have he2 : u = .int .u8 ((l[j]'hj2).toNat : Int) := by rw [← he]; simp [by8]
    rw [he2]
    exact (World.grownBy_alloc w (.cells #[] 5) none).cell hcj (by simp)
  case m1 => unfold maxLen; omega
  case m2 => omega
  case m3 => simp
  intro v' w' O G _ _
  go_wp2_with fail
  go_ret
  refine ⟨_, rfl, ?_, grown_trans (World.grownBy_alloc w _ none) G (Or.inr ⟨_, rfl, Nat.le_refl _⟩)⟩
  unfold Bs
  simpa using O

/-- BITS AT AN ADDRESS: their bytes, their directory, how many, how many are 1. -/
structure Bv (w : World) (b o : Nat) (p a : Value) (P : List UInt8) (D : List Nat) (n m : Nat) : Prop where
  c0 : w.cell? ⟨b, o, none⟩ = some p
  c1 : w.cell? ⟨b, o + 1, none⟩ = some a
  c2 : w.cell? ⟨b, o + 2, none⟩ = some (.int .i64 (n : Int))
  c3 : w.cell? ⟨b, o + 3, none⟩ = some (.int .u16 (m : Int))
  packed : Bs w 0 p P
  ahead : Us w 0 a D
theorem Bs.slice {w : World} {B : Nat} {v : Value} {l : List UInt8} (h : Bs w B v l) (hl : 0 < l.length) : ∃ g cap, v = .slice (some ⟨g, 0, none⟩) l.length cap ∧ l.length ≤ cap ∧ ∀ j (hj : j < l.length), w.cell? ⟨g, j, none⟩ = some (.int .u8 ((l[j]'hj).toNat : Int)) := by
  rcases h.form with ⟨rfl, rfl⟩ | ⟨g, cap, rfl, _, _, h3⟩
  · simp at hl
  · exact ⟨g, cap, rfl, h3, fun j hj => h.cell j hj⟩
theorem Us.slice {w : World} {B : Nat} {v : Value} {l : List Nat} (h : Us w B v l) (hl : 0 < l.length) : ∃ g cap, v = .slice (some ⟨g, 0, none⟩) l.length cap ∧ l.length ≤ cap ∧ ∀ j (hj : j < l.length), w.cell? ⟨g, j, none⟩ = some (.int .u16 ((l[j]'hj : Nat) : Int)) := by
  rcases h.form with ⟨rfl, rfl⟩ | ⟨g, cap, rfl, _, _, h3⟩
  · simp at hl
  · exact ⟨g, cap, rfl, h3, fun j hj => h.cell j hj⟩
theorem bit_any (b o : Nat) (p a : Value) (P : List UInt8) (D : List Nat) (n m k : Nat) (w : World) (h : Bv w b o p a P D n m) (hk : k / 8 < P.length) (hP : P.length ≤ 1000) :
    Calls Tryz.prog 101 #[.pointer (some ⟨b, o, none⟩), .int .i64 k] w fun e w' => e = .returned (.bool (Rot.bitAt P 0 k == 1)) ∧ w' = w := by
  obtain ⟨g, cap, rfl, hcap, hcell⟩ := h.packed.slice (by omega)
  have c0 := h.c0
  have ck := hcell (k / 8) hk
  have HB : Hid (Rot.bitAt P 0 k = (P[k / 8]'hk).toNat / 2 ^ (k % 8) % 2) := by
    unfold Rot.bitAt
    rw [Nat.zero_add, List.getElem?_eq_getElem hk]
    exact rfl
  have hx : (P[k / 8]'hk).toNat < 256 := (P[k / 8]'hk).toNat_lt
  generalize (P[k / 8]'hk).toNat = x at ck HB hx
  clear hcell h
  obtain ⟨q, hq⟩ : ∃ q : Nat, q = k / 8 := ⟨_, rfl⟩
  obtain ⟨r, hr⟩ : ∃ r : Nat, r = k % 8 := ⟨_, rfl⟩
  have hd8 : ((k : Int) / 8) = (q : Int) := by omega
  have hm8 : ((k : Int) % 8) = (r : Int) := by omega
  have hj : q < 1000 := by omega
  have hi8 : r < 8 := by omega
  have hkk : k < 10000 := by omega
  rw [← hq] at ck hk
  rw [← hr] at HB
  clear hq hr
  go_enter Tryz.func101, Tryz.ntmps101
  go_wp2_with fail
  go_ret
  refine ⟨ret_bool ?_, rfl⟩
  rw [unhide HB]
  have e1 : ((x : Int) / 2 ^ r) = ((x / 2 ^ r : Nat) : Int) := by simp
  have e2 : x / 2 ^ r < 256 := Nat.lt_of_le_of_lt (Nat.div_le_self _ _) hx
  rw [e1]
  have e3 := u8_and_nat (x / 2 ^ r) 1 e2 (by decide)
  rw [Nat.and_one_is_mod] at e3
  have e4 : bits BinOp.and IntKind.u8 ((x / 2 ^ r : Nat) : Int) 1 = ((x / 2 ^ r % 2 : Nat) : Int) := e3
  rw [e4]
  rw [Bool.eq_iff_iff]
  simp only [beq_iff_eq]
  omega
namespace Rot
/-- How many of the first k bits are 1. -/
def os (P : List UInt8) (k : Nat) : Nat := k - zs P 0 k
theorem os_le (P : List UInt8) (k : Nat) : os P k ≤ k := by unfold os; omega
theorem os_succ (P : List UInt8) (k : Nat) : os P (k + 1) = os P k + bitAt P 0 k := by
  have h1 := zs_le P 0 k
  have h2 := bitAt_lt P 0 k
  unfold os
  show k + 1 - (zs P 0 k + (1 - bitAt P 0 k)) = _
  omega
end Rot
theorem Bv.grown {w w' : World} {b o : Nat} {p a : Value} {P : List UInt8} {D : List Nat} {n m : Nat} {r : Option Nat} (h : Bv w b o p a P D n m) (hg : w.grownBy w' r) (hb : r ≠ some b) (hp : p.ownBlock = none ∨ p.ownBlock ≠ r) (ha : a.ownBlock = none ∨ a.ownBlock ≠ r) : Bv w' b o p a P D n m := by
  have hlt : b < w.heap.size := World.block_lt_of_cell? w ⟨b, o, none⟩ h.c0
  exact ⟨(grown_cell hg hlt hb _).trans h.c0, (grown_cell hg hlt hb _).trans h.c1, (grown_cell hg hlt hb _).trans h.c2, (grown_cell hg hlt hb _).trans h.c3, h.packed.kept hg hp, World.ownsRow.kept h.ahead hg ha⟩
theorem Us.kept0 {w w' : World} {base : Nat} {v : Value} {l : List Nat} (h : Us w base v l) (hg : w.grownBy w' none) : Us w' base v l := ownsRow_kept0 h hg
theorem Bv.kept0 {w w' : World} {b o : Nat} {p a : Value} {P : List UInt8} {D : List Nat} {n m : Nat} (h : Bv w b o p a P D n m) (hg : w.grownBy w' none) : Bv w' b o p a P D n m := by
  have hlt : b < w.heap.size := World.block_lt_of_cell? w ⟨b, o, none⟩ h.c0
  exact ⟨(grown_cell hg hlt (by simp) _).trans h.c0, (grown_cell hg hlt (by simp) _).trans h.c1, (grown_cell hg hlt (by simp) _).trans h.c2, (grown_cell hg hlt (by simp) _).trans h.c3, h.packed.kept0 hg, h.ahead.kept0 hg⟩
theorem Bv.count {w : World} {b o : Nat} {p a : Value} {P : List UInt8} {D : List Nat} {n m : Nat} (h : Bv w b o p a P D n m) (hp : p.ownBlock ≠ some b) (ha : a.ownBlock ≠ some b) (m' : Nat) (z : Int) (hz : z = (m' : Int)) : Bv (w.setCell ⟨b, o + 3, none⟩ (.int .u16 z)) b o p a P D n m' := by
  subst hz
  have G := grown_setCell w b (o + 3) (.int .u16 (m' : Int))
  have ne : ∀ i, i ≠ o + 3 → (⟨b, o + 3, none⟩ : Addr) ≠ ⟨b, i, none⟩ := fun i hi e => hi (by injection e with _ e2; exact e2.symm)
  refine ⟨?_, ?_, ?_, ?_, h.packed.kept G (Or.inr hp), World.ownsRow.kept h.ahead G (Or.inr ha)⟩
  · rw [World.cell?_setCell_other _ _ _ _ (ne _ (by omega))]; exact h.c0
  · rw [World.cell?_setCell_other _ _ _ _ (ne _ (by omega))]; exact h.c1
  · rw [World.cell?_setCell_other _ _ _ _ (ne _ (by omega))]; exact h.c2
  · exact World.cell?_setCell_same _ _ _ h.c3
/-- What Take takes out of the bytes l. -/
structure TakeOut (w w' : World) (b g n : Nat) (l : List UInt8) (p a : Value) : Prop where
  rdr : ∃ v, Rdr w' b g v (l.drop ((n + 7) / 8 + 2 * ((n + 15) / 16)))
  packed : Bs w' w.heap.size p (l.take ((n + 7) / 8))
  ahead : Us w' w.heap.size a (Rot.nums (l.drop ((n + 7) / 8)) ((n + 15) / 16))
  grown : w.grownBy w' (some b)
def onesIn (l : List UInt8) (n : Nat) : Nat := Rot.os (l.take ((n + 7) / 8)) n
/-- Behind k bits. -/
structure CountAt (W wr : World) (L : Nat) (p a : Value) (P : List UInt8) (D : List Nat) (n k : Nat) : Prop where
  bits : Bv wr L 0 p a P D n (Rot.os P k)
  free : wr.frozen? ⟨L, 3, none⟩ = false
  grown : W.grownBy wr (some L)
set_option maxHeartbeats 1000000 in
theorem take_any (b g : Nat) (v : Value) (l : List UInt8) (n : Nat) (w : World) (h : Rdr w b g v l) (hg : g < w.heap.size) (hn : n ≤ 300) :
    Calls Tryz.prog 115 #[.pointer (some ⟨b, 0, none⟩), .int .i64 n] w fun e w' => ((n + 7) / 8 + 2 * ((n + 15) / 16) ≤ l.length ∧ ∃ p a, e = .returned (.agg #[p, a, .int .i64 n, .int .u16 (onesIn l n : Nat)]) ∧ TakeOut w w' b g n l p a) ∨ (l.length < (n + 7) / 8 + 2 * ((n + 15) / 16) ∧ e = .panicked (gu 4) ∧ w.grownBy w' (some b)) := by
  obtain ⟨pl, hpl⟩ : ∃ pl : Nat, pl = (n + 7) / 8 := ⟨_, rfl⟩
  obtain ⟨dl, hdl⟩ : ∃ dl : Nat, dl = (n + 15) / 16 := ⟨_, rfl⟩
  have e1 : (((n : Int) + 7) / 8) = (pl : Int) := by omega
  have e2 : (((n : Int) + 16 - 1) / 16) = (dl : Int) := by omega
  have hbl := h.lt
  have HP := hide hpl
  have HD := hide hdl
  have hplb : pl ≤ 40 := by omega
  have hdlb : dl ≤ 20 := by omega
  rw [← hpl, ← hdl]
  clear hpl hdl
  have h0 := h.grown (World.grownBy_alloc w (.cells #[.slice none 0 0, .slice none 0 0, .int .i64 0, .int .u16 0] 69) none) (by simp) (by simp) hg
  have G0 := hide (World.grownBy_alloc w (.cells #[.slice none 0 0, .slice none 0 0, .int .i64 0, .int .u16 0] 69) (some b))
  by_cases hp : pl ≤ l.length
  case neg =>
    have hcon := bytes_no b g v l pl _ h0 (by omega)
    clear h h0
    go_enter Tryz.func115, Tryz.ntmps115
    go_wp2_with fail
    refine hcon.mono ?_
    rintro e w1 ⟨rfl, rfl⟩
    clear hcon
    go_wp2_with fail
    exact ⟨rfl, Or.inr ⟨by omega, rfl, unhide G0⟩⟩
  have hcon := bytes_yes b g v l pl _ h0 hp
  have H0 := hide h0
  clear h h0
  go_enter Tryz.func115, Tryz.ntmps115
  go_wp2_with fail
  refine hcon.mono ?_
  rintro e w1 ⟨u, rfl, hu, hadv⟩
  clear hcon
  obtain ⟨v1, h1⟩ := Adv.rdr (unhide H0) hadv
  have g1 := Adv.grown hadv
  have hs1 := g1.size
  have hu1 := hu.grown g1 (by intro e; cases e; exact (unhide H0).ne rfl) (by simp; omega)
  have hcon := clone_any g u (l.take pl) w1 hu1 (by simp at hs1; omega) (by rw [List.length_take]; omega)
  have G1 := hide g1
  clear hu hadv g1 hu1
  go_wp2_with fail
  refine hcon.mono ?_
  rintro e w2 ⟨p, rfl, hP, g2⟩
  clear hcon
  obtain ⟨az, cz, rfl⟩ := Bs.shape hP
  rw [List.length_take, Nat.min_eq_left hp] at hP
  have h2 := h1.grown g2 (by simp) (by simp) (by simp at hs1; omega)
  have hs2 := g2.size
  have hcon := nums_any b g v1 (l.drop pl) dl w2 h2 (by simp at hs1; omega) (by omega)
  have G2 := hide g2
  have HPK := hide hP
  clear h1 h2 g2 hP
  go_wp2_with fail
  refine hcon.mono ?_
  rintro e w3 (⟨hlen, rfl, hout⟩ | ⟨hlen, rfl, g3⟩)
  case inr =>
    clear hcon
    have G3 := hide g3
    rw [List.length_drop] at hlen
    clear g3
    go_wp2_with fail
    exact ⟨rfl, Or.inr ⟨by omega, rfl, grown_trans (grown_trans (grown_trans (unhide G0) (unhide G1) (Or.inl rfl)) (grown_weak (unhide G2) _) (Or.inl rfl)) (unhide G3) (Or.inl rfl)⟩⟩
  clear hcon
  rw [List.length_drop] at hlen
  have HO := hide hout
  have hs3 := hout.grown.size
  clear hout
  simp only [World.size_alloc] at hs1
  have hP3 : Bs w3 w1.heap.size (.slice az pl cz) (l.take pl) := (unhide HPK).kept (unhide HO).grown (by
    cases eo : (Value.slice az pl cz).ownBlock with
    | none => exact Or.inl rfl
    | some k => exact Or.inr (by have := (Bs.lt (unhide HPK) eo).1; intro e; cases e; omega))
  have hA3 := (unhide HO).row
  have B0 : Bv (w3.alloc (.cells #[.slice az pl cz, .slice (some ⟨w2.heap.size, 0, none⟩) dl dl, .int .i64 n, .int .u16 0] 69)) w3.heap.size 0 (.slice az pl cz) (.slice (some ⟨w2.heap.size, 0, none⟩) dl dl) (l.take pl) (Rot.nums (l.drop pl) dl) n (Rot.os (l.take pl) 0) := by
    refine ⟨?_, ?_, ?_, ?_, (hP3.alloc _).mono (Nat.zero_le _), ?_⟩
    · go_simp
    · go_simp
    · go_simp
    · go_simp; rfl
    · have := World.ownsRow.alloc hA3 (.cells #[.slice az pl cz, .slice (some ⟨w2.heap.size, 0, none⟩) dl dl, .int .i64 n, .int .u16 0] 69)
      exact ⟨this.1, this.2.imp id fun ⟨g, cap, cur, a, b, c⟩ => ⟨g, cap, cur, a, Nat.zero_le _, c⟩⟩
  have F0 : (w3.alloc (.cells #[.slice az pl cz, .slice (some ⟨w2.heap.size, 0, none⟩) dl dl, .int .i64 n, .int .u16 0] 69)).frozen? ⟨w3.heap.size, 3, none⟩ = false := by go_simp
  go_wp2_with fail
  generalize hWA : (w3.alloc (.cells #[.slice az pl cz, .slice (some ⟨w2.heap.size, 0, none⟩) dl dl, .int .i64 n, .int .u16 0] 69)) = WA at B0 F0 ⊢
  have HWA := hide hWA
  have HB0 := hide (CountAt.mk B0 F0 (World.grownBy.refl WA (some w3.heap.size)))
  have HP3 := hide hP3
  have HA3 := hide hA3
  clear hWA B0 F0 hP3 hA3 HPK
  go_loopw [22] (fun i wr => ∃ k : Nat, k ≤ n ∧ i = .int .i64 k ∧ CountAt WA wr w3.heap.size (.slice az pl cz) (.slice (some ⟨w2.heap.size, 0, none⟩) dl dl) (l.take pl) (Rot.nums (l.drop pl) dl) n k) (fun i _ => n - (intOf i).toNat)
  case atStart => exact ⟨0, Nat.zero_le _, rfl, unhide HB0⟩
  case round =>
    obtain ⟨k, hk, rfl, hC⟩ := hrel
    clear HB0
    by_cases hlt : k < n
    · have hcon := bit_any _ _ _ _ _ _ _ _ k wr hC.bits (by rw [List.length_take, Nat.min_eq_left hp]; omega) (by rw [List.length_take]; omega)
      have c3 := hC.bits.c3
      have f3 := hC.free
      have ho := Rot.os_le (l.take pl) k
      have HS := hide (Rot.os_succ (l.take pl) k)
      have hb2 := Rot.bitAt_lt (l.take pl) 0 k
      have HC := hide hC
      clear hC
      generalize hbt : Rot.bitAt (l.take pl) 0 k = bt at hcon HS hb2
      clear hbt
      rw [Nat.zero_add] at c3
      by_cases hbit : bt = 1
      · subst hbit
        have hpo : (Value.slice az pl cz).ownBlock ≠ some w3.heap.size := by
          intro e
          have := (Bs.lt (unhide HP3) e).2
          omega
        have hao : (Value.slice (some ⟨w2.heap.size, 0, none⟩) dl dl).ownBlock ≠ some w3.heap.size := by
          intro e
          have := (World.ownsRow.lt (unhide HA3) _ e).2
          omega
        have HPO := hide hpo
        have HAO := hide hao
        clear hpo hao
        go_wp2_with fail
        refine hcon.mono ?_
        rintro e w4 ⟨rfl, hw4⟩
        subst hw4
        clear hcon
        go_wp2_with fail
        go_roundw
        case rel =>
          refine ⟨k + 1, by omega, by go_num, ?_, ?_, ?_⟩
          · have := (unhide HC).bits.count (unhide HPO) (unhide HAO) (Rot.os (l.take pl) (k + 1)) _ (by rw [unhide HS])
            rw [Nat.zero_add] at this
            exact this
          · rw [World.frozen?_setCell]; exact f3
          · exact grown_trans (unhide HC).grown (grown_setCell _ _ _ _) (Or.inl rfl)
        case measure => simp [intOf]; omega
      · have hbit0 : bt = 0 := by omega
        subst hbit0
        go_wp2_with fail
        refine hcon.mono ?_
        rintro e w4 ⟨rfl, hw4⟩
        subst hw4
        clear hcon
        go_wp2_with fail
        go_roundw
        case rel =>
          refine ⟨k + 1, by omega, by go_num, ?_, ?_, ?_⟩
          · rw [unhide HS]; exact (unhide HC).bits
          · exact (unhide HC).free
          · exact (unhide HC).grown
        case measure => simp [intOf]; omega
    · have hk' : k = n := by omega
      subst hk'
      have hR : WA.grownBy wr (some w3.heap.size) := hC.grown
      have G3 : w.grownBy w3 (some b) := grown_trans (grown_trans (grown_trans (unhide G0) (unhide G1) (Or.inl rfl)) (grown_weak (unhide G2) _) (Or.inl rfl)) (unhide HO).grown (Or.inl rfl)
      have GA : w3.grownBy WA none := by rw [← unhide HWA]; exact World.grownBy_alloc _ _ _
      have cR : ∀ j x, (w.alloc (.cells #[.slice none 0 0, .slice none 0 0, .int .i64 0, .int .u16 0] 69)).cell? ⟨w.heap.size, j, none⟩ = some x → wr.cell? ⟨w.heap.size, j, none⟩ = some x := by
        intro j x hx
        have h1 := (unhide G1).cell hx (by intro e; injection e with e; simp at e; omega)
        have h2 := (unhide G2).cell h1 (by simp)
        have h3 := (unhide HO).grown.cell h2 (by intro e; injection e with e; simp at e; omega)
        have h4 := GA.cell h3 (by simp)
        exact hR.cell h4 (by intro e; injection e with e; simp at e; omega)
      have fR : ∀ j, wr.frozen? ⟨w.heap.size, j, none⟩ = false := by
        intro j
        have l0 : w.heap.size < (w.alloc (.cells #[.slice none 0 0, .slice none 0 0, .int .i64 0, .int .u16 0] 69)).heap.size := by simp
        have l1 := Nat.lt_of_lt_of_le l0 (unhide G1).size
        have l2 := Nat.lt_of_lt_of_le l1 (unhide G2).size
        have l3 := Nat.lt_of_lt_of_le l2 (unhide HO).grown.size
        have l4 := Nat.lt_of_lt_of_le l3 GA.size
        rw [grown_frozen hR l4 (by intro e; injection e with e; omega), grown_frozen GA l3 (by simp), grown_frozen (unhide HO).grown l2 (by intro e; injection e with e; omega), grown_frozen (unhide G2) l1 (by simp), grown_frozen (unhide G1) l0 (by intro e; injection e with e; omega)]
        go_simp
      have r0 := cR 0 (.slice none 0 0) (by go_simp)
      have r1 := cR 1 (.slice none 0 0) (by go_simp)
      have r2 := cR 2 (.int .i64 0) (by go_simp)
      have r3 := cR 3 (.int .u16 0) (by go_simp)
      have f0 := fR 0
      have f1 := fR 1
      have f2 := fR 2
      have f3 := fR 3
      have c0 := hC.bits.c0
      have c1 := hC.bits.c1
      have c2 := hC.bits.c2
      have c3 := hC.bits.c3
      simp only [Nat.zero_add] at c0 c1 c2 c3
      have HC := hide hC
      have HR := hide hR
      have HG3 := hide G3
      have HGA := hide GA
      clear hC hR G3 GA cR fR
      have hne : w.heap.size ≠ w3.heap.size := by omega
      go_wp2_with fail
      have GE : wr.grownBy ((((wr.setCell ⟨w.heap.size, 0, none⟩ (.slice az pl cz)).setCell ⟨w.heap.size, 1, none⟩ (.slice (some ⟨w2.heap.size, 0, none⟩) dl dl)).setCell ⟨w.heap.size, 2, none⟩ (.int .i64 k)).setCell ⟨w.heap.size, 3, none⟩ (.int .u16 (Rot.os (l.take pl) k : Nat))) (some w.heap.size) :=
        grown_trans (grown_trans (grown_trans (grown_setCell _ _ _ _) (grown_setCell _ _ _ _) (Or.inl rfl)) (grown_setCell _ _ _ _) (Or.inl rfl)) (grown_setCell _ _ _ _) (Or.inl rfl)
      refine bodyPost_ret (v := .agg #[.slice az pl cz, .slice (some ⟨w2.heap.size, 0, none⟩) dl dl, .int .i64 k, .int .u16 (Rot.os (l.take pl) k : Nat)]) (by simp [results, Tryz.results115, go_sem, r0, r1, r2, r3]) rfl (Or.inl ⟨by omega, _, _, by unfold onesIn; rw [← unhide HP], ?_⟩)
      have hpl := unhide HP
      have hdl := unhide HD
      obtain ⟨v9, hv9⟩ := (unhide HO).rdr
      have hsA := (unhide HGA).size
      have hsR := (unhide HR).size
      have hv10 := (hv9.grown (unhide HGA) (by simp) (by simp) (by omega)).grown (unhide HR) (by intro e; injection e with e; omega) (by intro e; injection e with e; omega) (by omega)
      have hv11 := hv10.grown GE (by intro e; injection e with e; omega) (by intro e; injection e with e; omega) (by omega)
      have pb := fun (j : Nat) (eo : (Value.slice az pl cz).ownBlock = some j) => (unhide HP3).lt eo
      have ab := World.ownsRow.lt (unhide HA3)
      have hp1 : Bs wr w1.heap.size (.slice az pl cz) (l.take pl) := ((unhide HP3).kept0 (unhide HGA)).kept (unhide HR) (by
        cases eo : (Value.slice az pl cz).ownBlock with
        | none => exact Or.inl rfl
        | some j => have := pb j eo; exact Or.inr (by intro e; injection e with e; omega))
      have hp2 := hp1.kept GE (by
        cases eo : (Value.slice az pl cz).ownBlock with
        | none => exact Or.inl rfl
        | some j => have := pb j eo; exact Or.inr (by intro e; injection e with e; omega))
      have ha1 : Us wr w2.heap.size (.slice (some ⟨w2.heap.size, 0, none⟩) dl dl) (Rot.nums (l.drop pl) dl) := World.ownsRow.kept (Us.kept0 (unhide HA3) (unhide HGA)) (unhide HR) (Or.inr (by intro e; have := ab _ e; omega))
      have ha2 : Us ((((wr.setCell ⟨w.heap.size, 0, none⟩ (.slice az pl cz)).setCell ⟨w.heap.size, 1, none⟩ (.slice (some ⟨w2.heap.size, 0, none⟩) dl dl)).setCell ⟨w.heap.size, 2, none⟩ (.int .i64 k)).setCell ⟨w.heap.size, 3, none⟩ (.int .u16 (Rot.os (l.take pl) k : Nat))) w2.heap.size (.slice (some ⟨w2.heap.size, 0, none⟩) dl dl) (Rot.nums (l.drop pl) dl) := World.ownsRow.kept ha1 GE (Or.inr (by intro e; simp [Value.ownBlock] at e; omega))
      refine ⟨⟨v9, ?_⟩, ?_, ?_, ?_⟩
      · rw [← hpl, ← hdl, ← List.drop_drop]
        exact hv11
      · rw [← hpl]
        exact hp2.mono (by omega)
      · rw [← hpl, ← hdl]
        exact ⟨ha2.1, ha2.2.imp id fun ⟨g, cap, cur, a, b, c⟩ => ⟨g, cap, cur, a, by omega, c⟩⟩
      · exact grown_trans (grown_trans (grown_trans (unhide HG3) (grown_weak (unhide HGA) _) (Or.inl rfl)) (unhide HR) (Or.inr ⟨_, rfl, by omega⟩)) GE (Or.inr ⟨_, rfl, Nat.le_refl _⟩)
end Go.Proofs.YthlincikgdblfaaGreat
