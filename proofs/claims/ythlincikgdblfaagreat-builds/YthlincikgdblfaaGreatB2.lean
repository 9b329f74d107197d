import Derived.Test.YthlincikgdblfaaGreatB0
import Derived.Test.YthlincikgdblfaaGreatK2
namespace Go.Proofs.YthlincikgdblfaaGreat
open Go.RowKit
set_option linter.unusedVariables false

def Bo (w : World) (base : Nat) (v : Value) (l : List Bool) : Prop := w.ownsRow base 4 1 v l.length (l.map Value.bool)
theorem Bo.form {w : World} {base : Nat} {v : Value} {l : List Bool} (h : Bo w base v l) : (v = .slice none 0 0 ∧ l = []) ∨ ∃ g cap, v = .slice (some ⟨g, 0, none⟩) l.length cap ∧ base ≤ g ∧ g < w.heap.size ∧ l.length ≤ cap := by
  rcases h.2 with ⟨hv, hn⟩ | ⟨g, cap, cur, hv, hb, hg, hc, _⟩
  · exact Or.inl ⟨hv, List.eq_nil_of_length_eq_zero hn⟩
  · exact Or.inr ⟨g, cap, hv, hb, (Array.getElem?_eq_some_iff.1 hg).1, hc⟩
theorem Bo.cell {w : World} {base : Nat} {l : List Bool} {g n cap : Nat} (h : Bo w base (.slice (some ⟨g, 0, none⟩) n cap) l) (j : Nat) (hj : j < l.length) : w.cell? ⟨g, j, none⟩ = some (.bool (l[j]'hj)) := by
  have := World.ownsRow.cells h (g := g) rfl j (.bool (l[j]'hj)) (by simp [hj])
  rw [addr_add] at this
  exact this

/-- The j-th packed byte. -/
def pbyte (l : List Bool) (j : Nat) : UInt8 := ((Rot.rowOf l).packed[j]?).getD 0
theorem pbyte_bit (l : List Bool) (j k : Nat) (hk : k < 8) : (pbyte l j).toNat.testBit k = (l[8 * j + k]?).getD false := by
  have := Rot.packed_bit l (8 * j + k)
  rw [show (8 * j + k) / 8 = j by omega, show (8 * j + k) % 8 = k by omega] at this
  exact this
theorem pbyte_step (l : List Bool) (j k : Nat) (hk : k < 8) : (pbyte l j).toNat % 2 ^ (k + 1) = (pbyte l j).toNat % 2 ^ k + if (l[8 * j + k]?).getD false then 2 ^ k else 0 := by
  have hb := pbyte_bit l j k hk
  rw [Nat.testBit_eq_decide_div_mod_eq] at hb
  rw [Nat.pow_succ, Nat.mod_mul]
  have hlt2 : (pbyte l j).toNat / 2 ^ k % 2 < 2 := Nat.mod_lt _ (by decide)
  generalize (pbyte l j).toNat / 2 ^ k % 2 = d at hb hlt2 ⊢
  generalize hd2 : 2 ^ k = p
  cases hg : (l[8 * j + k]?).getD false with
  | true =>
    rw [hg] at hb
    have : d = 1 := by simpa using hb
    subst this
    simp
  | false =>
    rw [hg] at hb
    have h1 : d ≠ 1 := by simpa using hb
    have : d = 0 := by omega
    subst this
    simp
theorem pbyte_end (l : List Bool) (j k : Nat) (h : 8 ≤ k ∨ l.length ≤ 8 * j + k) : (pbyte l j).toNat % 2 ^ k = (pbyte l j).toNat := by
  apply Nat.mod_eq_of_lt
  rcases h with h | h
  · exact Nat.lt_of_lt_of_le (pbyte l j).toNat_lt (Nat.pow_le_pow_right (by decide) h)
  · apply Nat.lt_pow_two_of_testBit
    intro i hi
    by_cases h8 : i < 8
    · rw [pbyte_bit l j i h8, List.getElem?_eq_none (by omega)]
      rfl
    · exact Nat.testBit_lt_two_pow (Nat.lt_of_lt_of_le (pbyte l j).toNat_lt (Nat.pow_le_pow_right (by decide) (by omega : 8 ≤ i)))
theorem packed_take (l : List Bool) (j : Nat) (hj : j < (Rot.rowOf l).packed.length) : (Rot.rowOf l).packed.take (j + 1) = (Rot.rowOf l).packed.take j ++ [pbyte l j] := by
  rw [List.take_succ_eq_append_getElem hj]
  unfold pbyte
  rw [List.getElem?_eq_getElem hj]
  rfl
theorem conv_one (x : Int) (b : UInt8) (hx : x = (b.toNat : Int)) : ∀ w : World, (convert 45 9 (.slice (some ⟨w.heap.size, 0, none⟩) 1 1)).run Tryz.prog (w.alloc (.cells #[.int .u8 x] 5)) = .ok (.string (Sb [b])) (w.alloc (.cells #[.int .u8 x] 5)) := by
  intro w
  subst hx
  exact conv_lit w [b] _ rfl (by simp)

/-- Within a byte: q bits are laid. -/
def InByte (l : List Bool) (j q p bv : Nat) : Prop := p = 2 ^ q ∧ bv = (pbyte l j).toNat % 2 ^ q
def InByteV (l : List Bool) (j : Nat) (b v k : Value) : Prop := ∃ q p bv : Nat, q ≤ 8 ∧ 8 * j + q ≤ l.length ∧ k = .int .i64 ((8 * j + q : Nat) : Int) ∧ v = .int .i64 (p : Int) ∧ b = .int .i64 (bv : Int) ∧ InByte l j q p bv
theorem InByteV.mk {l : List Bool} {j : Nat} {b v k : Value} (q p bv : Nat) (h1 : q ≤ 8) (h2 : 8 * j + q ≤ l.length) (h3 : k = .int .i64 ((8 * j + q : Nat) : Int)) (h4 : v = .int .i64 (p : Int)) (h5 : b = .int .i64 (bv : Int)) (h6 : InByte l j q p bv) : InByteV l j b v k := ⟨q, p, bv, h1, h2, h3, h4, h5, h6⟩
/-- Within the directory: q bits are passed. -/
def InDir (l : List Bool) (q on : Nat) (o : Value) : Prop := on = (Rot.rowOf (l.take q)).ones ∧ o = .string (Sb ((Rot.rowOf l).packed ++ (Rot.rowOf (l.take q)).ahead.flatMap Rot.le16))

def InDirV (l : List Bool) (o n k : Value) : Prop := ∃ q on : Nat, q ≤ l.length ∧ k = .int .i64 (q : Int) ∧ n = .int .i64 (on : Int) ∧ InDir l q on o
theorem InDirV.mk {l : List Bool} {o n k : Value} (q on : Nat) (h1 : q ≤ l.length) (h2 : k = .int .i64 (q : Int)) (h3 : n = .int .i64 (on : Int)) (h4 : InDir l q on o) : InDirV l o n k := ⟨q, on, h1, h2, h3, h4⟩

set_option maxRecDepth 100000 in
set_option maxHeartbeats 1000000 in
theorem rbits_any (B : Nat) (v : Value) (l : List Bool) (w : World) (h : Bo w B v l) (hl : l.length < 1000) :
    Calls Tryz.prog 107 #[v] w fun e w' => e = .returned (.string (Sb (Rot.bitsOf l))) ∧ w.grownBy w' none := by
  rcases h.form with ⟨rfl, rfl⟩ | ⟨g, cap, rfl, hg1, hg2, hg3⟩
  · go_enter Tryz.func107, Tryz.ntmps107
    go_wp2_with fail
    refine wp_loop_rounds 1 ?_
    rw [rounds_succ]
    go_wp2_with fail
    refine wp_loop_rounds 1 ?_
    rw [rounds_succ]
    go_wp2_with fail
    go_ret
    exact ⟨rfl, World.grownBy.refl _ _⟩
  · have HU := hide h
    have hpl : (Rot.rowOf l).packed.length = (l.length + 7) / 8 := by rw [(row_fits l).packed, row_count]
    clear h
    go_enter Tryz.func107, Tryz.ntmps107
    go_wp2_with fail
    go_loopw [3, 4, 5, 6, 7] (fun o i _b _v _k wr => ∃ j : Nat, j ≤ (l.length + 7) / 8 ∧ i = .int .i64 ((8 * j : Nat) : Int) ∧ o = .string (Sb ((Rot.rowOf l).packed.take j)) ∧ w.grownBy wr none) (fun _ i _ _ _ _ => l.length + 8 - (intOf i).toNat)
    case atStart => exact ⟨0, Nat.zero_le _, rfl, rfl, World.grownBy.refl _ _⟩
    case round =>
      obtain ⟨j, hj, rfl, rfl, G⟩ := hrel
      by_cases hlt : 8 * j < l.length
      · have HG := hide G
        obtain ⟨wo, hwo⟩ : ∃ wo : World, wo = wr := ⟨_, rfl⟩
        rw [← hwo] at HG G ⊢
        clear hwo
        have hc := Bo.cell (ownsRow_kept0 (unhide HU) G)
        have HC := hide hc
        clear hc G
        go_wp2_with fail
        go_loop [5, 6, 7] (fun b v k => InByteV l j b v k) (fun _ _ k => 8 * j + 9 - (intOf k).toNat)
        case atStart => exact InByteV.mk 0 1 0 (by omega) (by omega) rfl rfl rfl ⟨rfl, by rw [Nat.pow_zero, Nat.mod_one]⟩
        case round =>
          obtain ⟨q, p, bv, hq, hq2, rfl, rfl, rfl, hp, hbv⟩ := hrel
          have hp2 : p ≤ 256 := by rw [hp]; exact Nat.pow_le_pow_right (by decide) hq
          have hb2 : bv ≤ 255 := by
            rw [hbv]
            have := (pbyte l j).toNat_lt
            exact Nat.le_trans (Nat.mod_le _ _) (by omega)
          by_cases hin : q < 8 ∧ 8 * j + q < l.length
          · obtain ⟨q8, ql⟩ := hin
            have hck := unhide HC (8 * j + q) ql
            have HST := hide (pbyte_step l j q q8)
            have HP := hide hp
            have HBV := hide hbv
            have HQ := hide (List.getElem?_eq_getElem ql)
            cases hbit : l[8 * j + q]'ql with
            | true =>
              rw [hbit] at hck
              have HBIT := hide hbit
              clear hp hbv hbit
              go_wp2
              go_round
              case rel =>
                have hI : InByte l j (q + 1) (2 * p) (bv + p) := by
                  refine ⟨by rw [unhide HP, Nat.pow_succ]; omega, ?_⟩
                  rw [unhide HST, unhide HQ, unhide HBIT, unhide HBV, unhide HP]
                  rfl
                first | exact InByteV.mk (q + 1) (2 * p) (bv + p) (by omega) (by omega) (by go_num) (by go_num) (by go_num) hI | (refine ⟨_, _, _, ?_, rfl, rfl, rfl⟩; exact InByteV.mk (q + 1) (2 * p) (bv + p) (by omega) (by omega) (by go_num) (by go_num) (by go_num) hI)
              case measure => simp [intOf]; omega
            | false =>
              rw [hbit] at hck
              have HBIT := hide hbit
              clear hp hbv hbit
              go_wp2
              go_round
              case rel =>
                have hI : InByte l j (q + 1) (2 * p) (bv) := by
                  refine ⟨by rw [unhide HP, Nat.pow_succ]; omega, ?_⟩
                  rw [unhide HST, unhide HQ, unhide HBIT, unhide HBV]
                  rfl
                first | exact InByteV.mk (q + 1) (2 * p) bv (by omega) (by omega) (by go_num) (by go_num) (by go_num) hI | (refine ⟨_, _, _, ?_, rfl, rfl, rfl⟩; exact InByteV.mk (q + 1) (2 * p) bv (by omega) (by omega) (by go_num) (by go_num) (by go_num) hI)
              case measure => simp [intOf]; omega
          · have hend : bv = (pbyte l j).toNat := by
              rw [hbv]
              exact pbyte_end l j q (by omega)
            have hcv := conv_one (bv : Int) (pbyte l j) (by rw [hend])
            have HA := hide (Sb_append ((Rot.rowOf l).packed.take j) [pbyte l j])
            have HPT := hide (packed_take l j (by omega))
            have z1 : (Sb ((Rot.rowOf l).packed.take j)).size ≤ 1000 := Sb_le (by rw [List.length_take]; omega)
            have z2 : (Sb [pbyte l j]).size ≤ 1000 := Sb_le (by simp)
            clear hp hbv hend hpl
            have HG2 := hide (fun o : Obj => grown_alloc (unhide HG) o)
            by_cases h8 : q < 8
            · have hle : l.length ≤ 8 * j + q := by omega
              go_wp2_with fail
              go_roundw
              case rel => exact ⟨j + 1, by omega, by go_num, by rw [unhide HPT, ← unhide HA], unhide HG2 _⟩
              case measure => simp [intOf]; omega
            · have hle : 8 ≤ q := by omega
              go_wp2_with fail
              go_roundw
              case rel => exact ⟨j + 1, by omega, by go_num, by rw [unhide HPT, ← unhide HA], unhide HG2 _⟩
              case measure => simp [intOf]; omega
      · have hjj : j = (l.length + 7) / 8 := by omega
        have e : (Rot.rowOf l).packed.take j = (Rot.rowOf l).packed := List.take_of_length_le (by omega)
        rw [e]
        clear e hjj
        go_wp2_with fail
        go_loopw [3, 8, 9] (fun o n k wr2 => InDirV l o n k ∧ w.grownBy wr2 none) (fun _ _ k _ => l.length - (intOf k).toNat)
        case atStart => exact ⟨InDirV.mk 0 0 (Nat.zero_le _) rfl rfl ⟨rfl, by simp [Rot.rowOf, Rot.Row.none]⟩, G⟩
        case round =>
          obtain ⟨⟨q, on, hq, rfl, rfl, ⟨hon, rfl⟩⟩, G2⟩ := hrel
          have hfit := row_fits (l.take q)
          have hcnt := row_count (l.take q)
          rw [List.length_take] at hcnt
          have hon2 : on ≤ 1000 := by rw [hon]; have := hfit.ones; omega
          by_cases hlt2 : q < l.length
          · have hck := Bo.cell (ownsRow_kept0 (unhide HU) G2) q hlt2
            have hcnt2 : (Rot.rowOf (l.take q)).count = q := by omega
            have hsn : Rot.rowOf (l.take (q + 1)) = (Rot.rowOf (l.take q)).add (l[q]'hlt2) := by
              rw [List.take_succ_eq_append_getElem hlt2, rowOf_snoc]
            have hal := hfit.ahead
            have hzs : ((Rot.rowOf l).packed ++ (Rot.rowOf (l.take q)).ahead.flatMap Rot.le16).length ≤ 1000 := by
              rw [List.length_append, flat_len, hpl, hal]
              omega
            have z1 := Sb_le hzs
            have z2 := Sb_two on
            have HSN := hide hsn
            have HON := hide hon
            have HCN := hide hcnt2
            clear hon hcnt hcnt2 hfit hsn hal hzs hpl
            generalize hD : (Rot.rowOf (l.take q)) = R at z1 HSN HON HCN
            clear hD
            by_cases h16 : q % 16 = 0
            · have t16 : ((q : Int) % 16 == 0) = true := by simp; omega
              have H16 := hide h16
              have HA := hide (Sb_append ((Rot.rowOf l).packed ++ R.ahead.flatMap Rot.le16) (Rot.le16 on))
              clear h16
              go_wp2_with fail
              refine (two_any on _ (by omega)).mono ?_
              rintro e w3 ⟨rfl, G3⟩
              have hck3 : w3.cell? ⟨g, q, none⟩ = some (.bool (l[q]'hlt2)) := G3.cell hck (by simp)
              have HG3 := hide (grown_trans G2 G3 (Or.inl rfl))
              clear hck G2 G3
              cases hbit : l[q]'hlt2 with
              | true =>
                rw [hbit] at hck3 HSN
                clear hbit
                go_wp2_with fail
                go_roundw
                case rel =>
                  have hI : ∀ X : Value, X = .string (Sb ((Rot.rowOf l).packed ++ (Rot.rowOf (l.take (q + 1))).ahead.flatMap Rot.le16)) → InDir l (q + 1) (on + 1) X := by
                    intro X hX
                    refine ⟨?_, hX⟩
                    rw [unhide HSN, unhide HON]; rfl
                  repeat apply Exists.intro
                  refine ⟨?_, rfl⟩
                  refine ⟨InDirV.mk (q + 1) (on + 1) (by omega) (by go_num) (by go_num) (hI _ ?_), unhide HG3⟩
                  rw [unhide HSN, unhide HA]; simp only [Rot.Row.add, Rot.addAhead, unhide HCN, unhide H16, if_true, List.flatMap_append]; simp [unhide HON]
                case measure => simp [intOf]; omega
              | false =>
                rw [hbit] at hck3 HSN
                clear hbit
                go_wp2_with fail
                go_roundw
                case rel =>
                  have hI : ∀ X : Value, X = .string (Sb ((Rot.rowOf l).packed ++ (Rot.rowOf (l.take (q + 1))).ahead.flatMap Rot.le16)) → InDir l (q + 1) (on) X := by
                    intro X hX
                    refine ⟨?_, hX⟩
                    rw [unhide HSN, unhide HON]; rfl
                  repeat apply Exists.intro
                  refine ⟨?_, rfl⟩
                  refine ⟨InDirV.mk (q + 1) (on) (by omega) (by go_num) (by go_num) (hI _ ?_), unhide HG3⟩
                  rw [unhide HSN, unhide HA]; simp only [Rot.Row.add, Rot.addAhead, unhide HCN, unhide H16, if_true, List.flatMap_append]; simp [unhide HON]
                case measure => simp [intOf]; omega
            · have t16 : ((q : Int) % 16 == 0) = false := by simp; omega
              have H16 := hide h16
              have HG3 := hide G2
              clear h16 G2
              cases hbit : l[q]'hlt2 with
              | true =>
                rw [hbit] at hck HSN
                clear hbit
                go_wp2_with fail
                go_roundw
                case rel =>
                  have hI : ∀ X : Value, X = .string (Sb ((Rot.rowOf l).packed ++ (Rot.rowOf (l.take (q + 1))).ahead.flatMap Rot.le16)) → InDir l (q + 1) (on + 1) X := by
                    intro X hX
                    refine ⟨?_, hX⟩
                    rw [unhide HSN, unhide HON]; rfl
                  first | exact ⟨InDirV.mk (q + 1) (on + 1) (by omega) (by go_num) (by go_num) (hI _ (by rw [unhide HSN]; simp only [Rot.Row.add, Rot.addAhead, unhide HCN, unhide H16, if_false])), unhide HG3⟩ | ((repeat apply Exists.intro); exact ⟨⟨InDirV.mk (q + 1) (on + 1) (by omega) (by go_num) (by go_num) (hI _ (by rw [unhide HSN]; simp only [Rot.Row.add, Rot.addAhead, unhide HCN, unhide H16, if_false])), unhide HG3⟩, rfl⟩)
                case measure => simp [intOf]; omega
              | false =>
                rw [hbit] at hck HSN
                clear hbit
                go_wp2_with fail
                go_roundw
                case rel =>
                  have hI : ∀ X : Value, X = .string (Sb ((Rot.rowOf l).packed ++ (Rot.rowOf (l.take (q + 1))).ahead.flatMap Rot.le16)) → InDir l (q + 1) (on) X := by
                    intro X hX
                    refine ⟨?_, hX⟩
                    rw [unhide HSN, unhide HON]; rfl
                  first | exact ⟨InDirV.mk (q + 1) (on) (by omega) (by go_num) (by go_num) (hI _ (by rw [unhide HSN]; simp only [Rot.Row.add, Rot.addAhead, unhide HCN, unhide H16, if_false])), unhide HG3⟩ | ((repeat apply Exists.intro); exact ⟨⟨InDirV.mk (q + 1) (on) (by omega) (by go_num) (by go_num) (hI _ (by rw [unhide HSN]; simp only [Rot.Row.add, Rot.addAhead, unhide HCN, unhide H16, if_false])), unhide HG3⟩, rfl⟩)
                case measure => simp [intOf]; omega
          · have e : l.take q = l := List.take_of_length_le (by omega)
            rw [e]
            have HG2 := hide G2
            clear G2 hon hfit hcnt e
            go_wp2_with fail
            go_ret
            exact ⟨rfl, unhide HG2⟩
end Go.Proofs.YthlincikgdblfaaGreat
