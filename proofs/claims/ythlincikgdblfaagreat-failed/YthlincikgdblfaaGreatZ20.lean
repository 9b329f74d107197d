import Derived.Test.YthlincikgdblfaaGreatZ18
import Derived.Test.YthlincikgdblfaaGreatZ19
namespace Go.Proofs.YthlincikgdblfaaGreat
set_option linter.unusedVariables false
namespace Rot
/-- Where a level's bits stand. -/
def lvl (at' n l : Nat) : Nat := at' + l * (2 + (n + 7) / 8 + 2 * ((n + 15) / 16)) + 2
/-- Where place i of the order would go, of what has that bit. -/
def goes (s : List UInt8) (f n bit i : Nat) : Nat := if bit = 0 then zs s f i else zs s f n + i - zs s f i
theorem goes_le {s : List UInt8} {f n bit i : Nat} (hi : i ≤ n) : goes s f n bit i ≤ n := by
  obtain ⟨d, rfl⟩ : ∃ d, n = i + d := ⟨n - i, by omega⟩
  have h1 := zs_mono s f i d
  have h2 := zs_le s f i
  unfold goes
  split <;> omega
theorem goes_own (s : List UInt8) (f n i : Nat) : goes s f n (bitAt s f i) i = nxt s f n i := rfl
theorem goes_succ {s : List UInt8} {f n bit i : Nat} (hb : bit < 2) (hi : i < n) : goes s f n bit (i + 1) = goes s f n bit i + if bitAt s f i = bit then 1 else 0 := by
  obtain ⟨d, rfl⟩ : ∃ d, n = i + 1 + d := ⟨n - (i + 1), by omega⟩
  have h1 := zs_mono s f (i + 1) d
  have h2 := zs_le s f i
  have h3 : zs s f (i + 1) = zs s f i + (1 - bitAt s f i) := rfl
  have h4 := bitAt_lt s f i
  unfold goes
  by_cases e : bit = 0
  · subst e
    rw [if_pos rfl, if_pos rfl, h3]
    split <;> omega
  · have e1 : bit = 1 := by omega
    subst e1
    rw [if_neg (by decide), if_neg (by decide)]
    split <;> omega
/-- Where place i of the column would stand at level l, were it c's. -/
def rk (s : List UInt8) (at' n c : Nat) : Nat → Nat → Nat
  | 0, i => i
  | l + 1, i => goes s (lvl at' n l) n (c / 2 ^ (7 - l) % 2) (rk s at' n c l i)
theorem rk_le (s : List UInt8) (at' n c : Nat) {i : Nat} (hi : i ≤ n) : ∀ l, rk s at' n c l i ≤ n
  | 0 => hi
  | l + 1 => goes_le (rk_le s at' n c hi l)
theorem rk_succ (s : List UInt8) (at' n c : Nat) {i : Nat} (hi : i < n) : ∀ l, l ≤ 8 → rk s at' n c l (i + 1) = rk s at' n c l i + (if code s at' n i l = c / 2 ^ (8 - l) % 2 ^ l then 1 else 0) ∧ (code s at' n i l = c / 2 ^ (8 - l) % 2 ^ l → posn s at' n i l = rk s at' n c l i)
  | 0, _ => by
    have e : code s at' n i 0 = c / 2 ^ (8 - 0) % 2 ^ 0 := by simp [code, Nat.mod_one]
    rw [if_pos e]
    exact ⟨rfl, fun _ => rfl⟩
  | l + 1, h => by
    obtain ⟨h1, h2⟩ := rk_succ s at' n c hi l (by omega)
    have hb : c / 2 ^ (7 - l) % 2 < 2 := Nat.mod_lt _ (by decide)
    have hc : code s at' n i (l + 1) = 2 * code s at' n i l + bitAt s (lvl at' n l) (posn s at' n i l) := rfl
    have hb2 := bitAt_lt s (lvl at' n l) (posn s at' n i l)
    have hp : c / 2 ^ (8 - (l + 1)) % 2 ^ (l + 1) = 2 * (c / 2 ^ (8 - l) % 2 ^ l) + c / 2 ^ (7 - l) % 2 := by
      have e1 : 8 - (l + 1) = 7 - l := by omega
      have e2 : c / 2 ^ (8 - l) = c / 2 ^ (7 - l) / 2 := by
        rw [Nat.div_div_eq_div_mul, ← Nat.pow_succ]
        congr 2
        omega
      rw [e1, e2]
      generalize c / 2 ^ (7 - l) = y
      rw [Nat.pow_succ]
      have hpos : 0 < 2 ^ l := Nat.two_pow_pos l
      generalize 2 ^ l = m at hpos
      have e3 := Nat.div_add_mod y 2
      have e4 := Nat.div_add_mod (y / 2) m
      have e5 : y / 2 % m < m := Nat.mod_lt _ hpos
      have e6 : y % 2 < 2 := Nat.mod_lt _ (by decide)
      have e7 : y = (m * 2) * (y / 2 / m) + (2 * (y / 2 % m) + y % 2) := by
        have : (m * 2) * (y / 2 / m) = 2 * (m * (y / 2 / m)) := by rw [Nat.mul_comm m 2, Nat.mul_assoc]
        omega
      conv => lhs; rw [e7]
      rw [Nat.mul_add_mod]
      exact Nat.mod_eq_of_lt (by omega)
    show goes s (lvl at' n l) n (c / 2 ^ (7 - l) % 2) (rk s at' n c l (i + 1)) = goes s (lvl at' n l) n (c / 2 ^ (7 - l) % 2) (rk s at' n c l i) + _ ∧ (_ → nxt s (lvl at' n l) n (posn s at' n i l) = goes s (lvl at' n l) n (c / 2 ^ (7 - l) % 2) (rk s at' n c l i))
    rw [hc, hp, h1]
    by_cases e : code s at' n i l = c / 2 ^ (8 - l) % 2 ^ l
    · rw [if_pos e, goes_succ hb (by rw [← h2 e]; exact posn_lt s at' n i hi l), ← h2 e, ← goes_own]
      refine ⟨?_, ?_⟩
      · congr 1
        by_cases e2 : bitAt s (lvl at' n l) (posn s at' n i l) = c / 2 ^ (7 - l) % 2
        · rw [if_pos e2, if_pos (by omega)]
        · rw [if_neg e2, if_neg (by omega)]
      · intro e3
        have e2 : bitAt s (lvl at' n l) (posn s at' n i l) = c / 2 ^ (7 - l) % 2 := by omega
        rw [e2]
    · rw [if_neg e, if_neg (by omega)]
      exact ⟨rfl, fun e3 => absurd e3 (by omega)⟩
/-- How many of the places ahead of i of the column are c. -/
theorem rk_count (s : List UInt8) (at' n : Nat) (c : UInt8) : ∀ i, i ≤ n → rk s at' n c.toNat 8 i = rk s at' n c.toNat 8 0 + ((colRead s at' n).take i).countP (fun x => x == c)
  | 0, _ => by simp
  | i + 1, h => by
    have hc : c.toNat < 256 := c.toNat_lt
    have hlen : i < (colRead s at' n).length := by rw [colRead_len]; omega
    rw [(rk_succ s at' n c.toNat (by omega) 8 (by omega)).1, rk_count s at' n c i (by omega), List.take_succ_eq_append_getElem hlen, List.countP_append, Nat.add_assoc]
    congr 2
    have hg := colRead_get s at' n i hlen
    rw [show 8 - 8 = 0 by omega, Nat.pow_zero, Nat.div_one, Nat.mod_eq_of_lt hc, ← hg]
    simp only [List.countP_cons, List.countP_nil, Nat.zero_add]
    by_cases e : (colRead s at' n)[i]'hlen = c
    · rw [e]; simp
    · have e2 : ¬ ((colRead s at' n)[i]'hlen).toNat = c.toNat := fun h => e (UInt8.toNat_inj.1 h)
      have e3 : ((colRead s at' n)[i]'hlen == c) = false := by simpa using e
      rw [if_neg e2, e3]
      rfl
/-- A column's place, as it is found: where it stands at the end. -/
theorem rk_posn (s : List UInt8) (at' n : Nat) {i : Nat} (hi : i < n) (l : Nat) (hl : l ≤ 8) : posn s at' n i l = rk s at' n (code s at' n i 8) l i := by
  refine (rk_succ s at' n (code s at' n i 8) hi l hl).2 ?_
  have := code_part s at' n i (8 - l) l
  rw [show l + (8 - l) = 8 by omega] at this
  rw [← this]
  exact (Nat.mod_eq_of_lt (code_lt s at' n i l)).symm
/-- A piece of the bytes says what they say there. -/
theorem bit_piece (s : List UInt8) (f m k : Nat) (hk : k / 8 < m) : bitAt ((s.drop f).take m) 0 k = bitAt s f k := by
  unfold bitAt
  rw [Nat.zero_add, List.getElem?_take_of_lt hk, List.getElem?_drop]
theorem zs_piece (s : List UInt8) (f m n : Nat) (hm : (n + 7) / 8 ≤ m) : ∀ k, k ≤ n → zs ((s.drop f).take m) 0 k = zs s f k
  | 0, _ => rfl
  | k + 1, h => by
    show zs ((s.drop f).take m) 0 k + (1 - bitAt ((s.drop f).take m) 0 k) = zs s f k + (1 - bitAt s f k)
    rw [zs_piece s f m n hm k (by omega), bit_piece s f m k (by omega)]
end Rot
end Go.Proofs.YthlincikgdblfaaGreat

namespace Go.Proofs.YthlincikgdblfaaGreat
open Go.RowKit
set_option linter.unusedVariables false

/-- The bytes of a level's bits. -/
def piece (s : List UInt8) (at' n k : Nat) : List UInt8 := (s.drop (Rot.lvl at' n k)).take ((n + 7) / 8)
/-- THE TREE AT AN ADDRESS says what the bytes s say from a place on. -/
structure Tv (w : World) (b o : Nat) (s : List UInt8) (at' n : Nat) : Prop where
  lv : ∀ k, k < 8 → ∃ p a D, w.cell? ⟨b, o + k * 5, none⟩ = some (.int .i64 (Rot.zs s (Rot.lvl at' n k) n : Nat)) ∧ Bv w b (o + k * 5 + 1) p a (piece s at' n k) D n (Rot.os (piece s at' n k) n) ∧ Dir (piece s at' n k) D n
theorem Bv.drewN {w : World} {b o : Nat} {p a : Value} {P : List UInt8} {D : List Nat} {n m : Nat} (h : Bv w b o p a P D n m) (j : Nat) : Bv (w.drewN j) b o p a P D n m := ⟨h.c0, h.c1, h.c2, h.c3, h.packed, h.ahead⟩
theorem Tv.drewN {w : World} {b o : Nat} {s : List UInt8} {at' n : Nat} (h : Tv w b o s at' n) (j : Nat) : Tv (w.drewN j) b o s at' n :=
  ⟨fun k hk => by
    obtain ⟨p, a, D, h1, h2, h3⟩ := h.lv k hk
    exact ⟨p, a, D, h1, h2.drewN j, h3⟩⟩
theorem os_piece (s : List UInt8) (at' n k i : Nat) (hi : i ≤ n) : Rot.os (piece s at' n k) i = i - Rot.zs s (Rot.lvl at' n k) i := by
  unfold Rot.os piece
  rw [Rot.zs_piece s _ _ n (Nat.le_refl _) i hi]
theorem next_tv (b o : Nat) (s : List UInt8) (at' n k i : Nat) (bit : Bool) (w : World) (h : Tv w b o s at' n) (hn : n ≤ 300) (hk : k < 8) (hi : i ≤ n) :
    Calls Tryz.prog 119 #[.pointer (some ⟨b, o + k * 5, none⟩), .int .i64 i, .bool bit] w fun e w' => e = .returned (.int .i64 (Rot.goes s (Rot.lvl at' n k) n bit.toNat i : Nat)) ∧ ∃ j, w' = w.drewN j := by
  obtain ⟨p, a, D, h1, h2, h3⟩ := h.lv k hk
  have hz := Rot.zs_le s (Rot.lvl at' n k) n
  refine (next_any b (o + k * 5) p a _ D n i _ bit w h1 h2 hn hz h3 hi).mono ?_
  rintro e w' ⟨rfl, j, rfl⟩
  refine ⟨ret_int ?_, j, rfl⟩
  have h4 := Rot.zs_le s (Rot.lvl at' n k) i
  rw [os_piece s at' n k i hi]
  unfold Rot.goes
  cases bit
  · simp; omega
  · simp; omega
theorem bit_tv (b o : Nat) (s : List UInt8) (at' n k i : Nat) (w : World) (h : Tv w b o s at' n) (hn : n ≤ 300) (hk : k < 8) (hi : i < n) :
    Calls Tryz.prog 101 #[.pointer (some ⟨b, o + k * 5 + 1, none⟩), .int .i64 i] w fun e w' => e = .returned (.bool (Rot.bitAt s (Rot.lvl at' n k) i == 1)) ∧ w' = w := by
  obtain ⟨p, a, D, h1, h2, h3⟩ := h.lv k hk
  have hl := h3.1
  have := bit_any b (o + k * 5 + 1) p a _ D n _ i w h2 (by omega) (by omega)
  unfold piece at this
  rw [Rot.bit_piece s _ _ i (by omega)] at this
  exact this

/-- Behind l levels of Ahead. -/
def AheadV (s : List UInt8) (at' n c i : Nat) (w : World) (st pl ix : Value) (wr : World) : Prop := ∃ l j S P : Nat, l ≤ 8 ∧ ix = .int .i64 (l : Int) ∧ st = .int .i64 (S : Int) ∧ pl = .int .i64 (P : Int) ∧ S ≤ n ∧ P ≤ n ∧ wr = w.drewN j ∧ Hid (S = Rot.rk s at' n c l 0) ∧ Hid (P = Rot.rk s at' n c l i)
theorem AheadV.mk {s : List UInt8} {at' n c i : Nat} {w wr : World} {st pl ix : Value} (l j S P : Nat) (h1 : l ≤ 8) (h2 : ix = .int .i64 (l : Int)) (h3 : st = .int .i64 (S : Int)) (h4 : pl = .int .i64 (P : Int)) (h5 : S ≤ n) (h6 : P ≤ n) (h7 : wr = w.drewN j) (h8 : S = Rot.rk s at' n c l 0) (h9 : P = Rot.rk s at' n c l i) : AheadV s at' n c i w st pl ix wr := ⟨l, j, S, P, h1, h2, h3, h4, h5, h6, h7, h8, h9⟩
set_option maxHeartbeats 1000000 in
theorem ahead_any (b o : Nat) (s : List UInt8) (at' n i : Nat) (c : UInt8) (w : World) (h : Tv w b o s at' n) (hn : n ≤ 300) (hi : i ≤ n) :
    Calls Tryz.prog 86 #[.pointer (some ⟨b, o, none⟩), .int .u8 (c.toNat : Int), .int .i64 i] w fun e w' => e = .returned (.int .i64 (((Rot.colRead s at' n).take i).countP (fun x => x == c) : Nat)) ∧ ∃ j, w' = w.drewN j := by
  have HT := hide h
  clear h
  have hcx : c.toNat < 256 := c.toNat_lt
  have HF := hide (Rot.rk_count s at' n c i hi)
  generalize ((Rot.colRead s at' n).take i).countP (fun x => x == c) = cn at HF
  generalize c.toNat = x at hcx HF
  go_enter Tryz.func86, Tryz.ntmps86
  go_wp2_with fail
  go_loopw [7, 2, 11] (fun st pl ix wr => AheadV s at' n x i w st pl ix wr) (fun _ _ ix _ => 8 - (intOf ix).toNat)
  case atStart => exact AheadV.mk 0 0 0 i (by omega) rfl rfl rfl (by omega) hi rfl rfl rfl
  case round =>
    obtain ⟨l, j, S, P, hl, rfl, rfl, rfl, hS, hP, rfl, HS, HP⟩ := hrel
    by_cases hlt : l < 8
    · obtain ⟨m, hm⟩ : ∃ m : Nat, m = 7 - l := ⟨_, rfl⟩
      have im : (7 : Int) - (l : Int) = (m : Int) := by omega
      have hm8 : m < 8 := by omega
      have hx2 : x / 2 ^ m < 256 := Nat.lt_of_le_of_lt (Nat.div_le_self _ _) hcx
      obtain ⟨bt, hbt⟩ : ∃ bt : Bool, bt = (x / 2 ^ m % 2 == 1) := ⟨_, rfl⟩
      have hand : (bits BinOp.and IntKind.u8 ((x : Int) / 2 ^ m) 1 == 1) = bt := by
        have e3 := u8_and_nat (x / 2 ^ m) 1 hx2 (by decide)
        rw [Nat.and_one_is_mod] at e3
        have e1 : ((x : Int) / 2 ^ m) = ((x / 2 ^ m : Nat) : Int) := by simp
        rw [e1]
        have e4 : bits BinOp.and IntKind.u8 ((x / 2 ^ m : Nat) : Int) 1 = ((x / 2 ^ m % 2 : Nat) : Int) := e3
        rw [e4, hbt, Bool.eq_iff_iff]
        simp only [beq_iff_eq]
        omega
      have hbn : bt.toNat = x / 2 ^ (7 - l) % 2 := by
        rw [← hm, hbt]
        have : x / 2 ^ m % 2 < 2 := Nat.mod_lt _ (by decide)
        by_cases e : x / 2 ^ m % 2 = 1
        · rw [e]; rfl
        · have : x / 2 ^ m % 2 = 0 := by omega
          rw [this]; rfl
      have HS2 : Hid (Rot.goes s (Rot.lvl at' n l) n bt.toNat S = Rot.rk s at' n x (l + 1) 0) := by rw [unhide HS, hbn]; exact rfl
      have HP2 : Hid (Rot.goes s (Rot.lvl at' n l) n bt.toNat P = Rot.rk s at' n x (l + 1) i) := by rw [unhide HP, hbn]; exact rfl
      have hgS := Rot.goes_le (s := s) (f := Rot.lvl at' n l) (bit := bt.toNat) hS
      have hgP := Rot.goes_le (s := s) (f := Rot.lvl at' n l) (bit := bt.toNat) hP
      have hc1 := fun jj => next_tv b o s at' n l S bt (w.drewN jj) ((unhide HT).drewN jj) hn hlt hS
      have hc2 := fun jj => next_tv b o s at' n l P bt (w.drewN jj) ((unhide HT).drewN jj) hn hlt hP
      generalize Rot.goes s (Rot.lvl at' n l) n bt.toNat S = S2 at HS2 hgS hc1
      generalize Rot.goes s (Rot.lvl at' n l) n bt.toNat P = P2 at HP2 hgP hc2
      clear hm hbt hbn HS HP hx2
      go_wp2_with fail
      refine (hc1 _).mono ?_
      rintro e w1 ⟨rfl, j1, rfl⟩
      go_wp2_with fail
      refine (hc2 _).mono ?_
      rintro e w2 ⟨rfl, j2, rfl⟩
      go_wp2_with fail
      go_roundw
      case rel => first | exact AheadV.mk (l + 1) _ S2 P2 (by omega) (by go_num) rfl rfl hgS hgP rfl (unhide HS2) (unhide HP2) | (repeat apply Exists.intro; refine ⟨?_, rfl⟩; exact AheadV.mk (l + 1) _ S2 P2 (by omega) (by go_num) rfl rfl hgS hgP rfl (unhide HS2) (unhide HP2))
      case measure => simp [intOf]; omega
    · have hl8 : l = 8 := by omega
      subst hl8
      have HE : Hid (P = S + cn) := by rw [unhide HS, unhide HP]; exact unhide HF
      clear HS HP HF
      have hle : S ≤ P := by rw [unhide HE]; omega
      go_wp2_with fail
      go_ret
      exact ⟨ret_int (by have := unhide HE; omega), _, rfl⟩
end Go.Proofs.YthlincikgdblfaaGreat

namespace Go.Proofs.YthlincikgdblfaaGreat
open Go.RowKit
set_option linter.unusedVariables false

/-- Behind l levels of At. -/
def TaV (s : List UInt8) (at' n i : Nat) (w : World) (cv st pl ix : Value) (wr : World) : Prop := ∃ l j C S P : Nat, l ≤ 8 ∧ ix = .int .i64 (l : Int) ∧ cv = .int .u8 (C : Int) ∧ st = .int .i64 (S : Int) ∧ pl = .int .i64 (P : Int) ∧ C < 2 ^ l ∧ S ≤ n ∧ P < n ∧ wr = w.drewN j ∧ Hid (C = Rot.code s at' n i l) ∧ Hid (S = Rot.rk s at' n (Rot.code s at' n i 8) l 0) ∧ Hid (P = Rot.posn s at' n i l)
theorem TaV.mk {s : List UInt8} {at' n i : Nat} {w wr : World} {cv st pl ix : Value} (l j C S P : Nat) (h1 : l ≤ 8) (h2 : ix = .int .i64 (l : Int)) (h0 : cv = .int .u8 (C : Int)) (h3 : st = .int .i64 (S : Int)) (h4 : pl = .int .i64 (P : Int)) (hC : C < 2 ^ l) (h5 : S ≤ n) (h6 : P < n) (h7 : wr = w.drewN j) (h10 : C = Rot.code s at' n i l) (h8 : S = Rot.rk s at' n (Rot.code s at' n i 8) l 0) (h9 : P = Rot.posn s at' n i l) : TaV s at' n i w cv st pl ix wr := ⟨l, j, C, S, P, h1, h2, h0, h3, h4, hC, h5, h6, h7, h10, h8, h9⟩
set_option maxHeartbeats 1000000 in
theorem at_any (b o : Nat) (s : List UInt8) (at' n i : Nat) (w : World) (h : Tv w b o s at' n) (hn : n ≤ 300) (hi : i < n) :
    Calls Tryz.prog 88 #[.pointer (some ⟨b, o, none⟩), .int .i64 i] w fun e w' => e = .returned (.tuple #[.int .u8 (Rot.code s at' n i 8 : Nat), .int .i64 (((Rot.colRead s at' n).take i).countP (fun x => x == Rot.at' (Rot.colRead s at' n) i) : Nat)]) ∧ ∃ j, w' = w.drewN j := by
  have HT := hide h
  clear h
  have hlen : i < (Rot.colRead s at' n).length := by rw [Rot.colRead_len]; exact hi
  have HF : Hid (Rot.posn s at' n i 8 = Rot.rk s at' n (Rot.code s at' n i 8) 8 0 + ((Rot.colRead s at' n).take i).countP (fun x => x == Rot.at' (Rot.colRead s at' n) i)) := by
    have h1 := Rot.rk_posn s at' n hi 8 (Nat.le_refl _)
    have h2 := Rot.rk_count s at' n (Rot.at' (Rot.colRead s at' n) i) i (by omega)
    have h3 : (Rot.at' (Rot.colRead s at' n) i).toNat = Rot.code s at' n i 8 := by
      unfold Rot.at'
      rw [List.getElem?_eq_getElem hlen]
      exact Rot.colRead_get s at' n i hlen
    rw [h3] at h2
    rw [h1]
    exact h2
  generalize ((Rot.colRead s at' n).take i).countP (fun x => x == Rot.at' (Rot.colRead s at' n) i) = cn at HF
  clear hlen
  go_enter Tryz.func88, Tryz.ntmps88
  go_wp2_with fail
  go_loopw [4, 6, 1, 10] (fun cv st pl ix wr => TaV s at' n i w cv st pl ix wr) (fun _ _ _ ix _ => 8 - (intOf ix).toNat)
  case atStart => exact TaV.mk 0 0 0 0 i (by omega) rfl rfl rfl rfl (by decide) (by omega) hi rfl rfl rfl rfl
  case round =>
    obtain ⟨l, j, C, S, P, hl, rfl, rfl, rfl, rfl, hC, hS, hP, rfl, HC, HS, HP⟩ := hrel
    by_cases hlt : l < 8
    · have hC2 : C < 128 := Nat.lt_of_lt_of_le hC (by have : (2 : Nat) ^ l ≤ 2 ^ 7 := Nat.pow_le_pow_right (by decide) (by omega); simpa using this)
      have hcb := fun jj => bit_tv b o s at' n l P (w.drewN jj) ((unhide HT).drewN jj) hn hlt hP
      have hb2 := Rot.bitAt_lt s (Rot.lvl at' n l) P
      have hcode : Rot.code s at' n i (l + 1) = 2 * C + Rot.bitAt s (Rot.lvl at' n l) P := by rw [unhide HC, unhide HP]; rfl
      have hbb : Rot.code s at' n i 8 / 2 ^ (7 - l) % 2 = Rot.bitAt s (Rot.lvl at' n l) P := by rw [unhide HP]; exact Rot.code_bit s at' n i l hlt
      have hrk : Rot.rk s at' n (Rot.code s at' n i 8) (l + 1) 0 = Rot.goes s (Rot.lvl at' n l) n (Rot.bitAt s (Rot.lvl at' n l) P) S := by rw [unhide HS, ← hbb]; rfl
      have hpos : Rot.posn s at' n i (l + 1) = Rot.goes s (Rot.lvl at' n l) n (Rot.bitAt s (Rot.lvl at' n l) P) P := by rw [unhide HP]; rfl
      have hpl := Rot.posn_lt s at' n i hi (l + 1)
      have hcl := Rot.code_lt s at' n i (l + 1)
      have hgS := Rot.goes_le (s := s) (f := Rot.lvl at' n l) (bit := Rot.bitAt s (Rot.lvl at' n l) P) hS
      by_cases hbit : Rot.bitAt s (Rot.lvl at' n l) P = 1
      · rw [hbit] at hcb hcode hrk hpos hgS
        have hc1 := fun jj => next_tv b o s at' n l S true (w.drewN jj) ((unhide HT).drewN jj) hn hlt hS
        have hc2 := fun jj => next_tv b o s at' n l P true (w.drewN jj) ((unhide HT).drewN jj) hn hlt (by omega)
        simp only [Bool.toNat_true] at hc1 hc2
        rw [← hrk] at hc1 hgS
        rw [← hpos] at hc2
        have HA : Hid (2 * C + 1 = Rot.code s at' n i (l + 1)) := hcode.symm
        have hcl2 : 2 * C + 1 < 2 ^ (l + 1) := by rw [hcode] at hcl; exact hcl
        have HCL := hide hcl2
        have hor : bits BinOp.or IntKind.u8 ((C : Int) * 2) 1 = ((2 * C + 1 : Nat) : Int) := by
          have e := u8_or_nat (C * 2) 1 (by omega) (by decide)
          rw [nat_join 1 (C * 2) 1 (by omega) (by decide)] at e
          have e0 : ((C * 2 : Nat) : Int) = (C : Int) * 2 := by simp
          rw [e0] at e
          rw [show 2 * C + 1 = C * 2 + 1 by omega]
          exact e
        obtain ⟨C2, hC2e⟩ : ∃ C2 : Nat, C2 = 2 * C + 1 := ⟨_, rfl⟩
        rw [← hC2e] at hor HA HCL
        have hC2b : C2 < 256 := by omega
        have HSX : Hid (Rot.rk s at' n (Rot.code s at' n i 8) (l + 1) 0 = Rot.rk s at' n (Rot.code s at' n i 8) (l + 1) 0) := rfl
        generalize hS2 : Rot.rk s at' n (Rot.code s at' n i 8) (l + 1) 0 = S2 at hc1 hgS
        generalize hP2 : Rot.posn s at' n i (l + 1) = P2 at hc2 hpl
        have HS2 := hide hS2
        have HP2 := hide hP2
        have hbe : ((1 : Nat) == 1) = true := rfl
        rw [hbe] at hcb
        clear hS2 hP2 HSX hcode hrk hpos hbit hbb HC HS HP hcl2 hcl hb2 hC2e hC
        go_wp2_with fail
        refine (hcb _).mono ?_
        rintro e w0 ⟨rfl, hw0⟩
        subst hw0
        go_wp2_with fail
        refine (hc1 _).mono ?_
        rintro e w1 ⟨rfl, j1, rfl⟩
        go_wp2_with fail
        refine (hc2 _).mono ?_
        rintro e w2 ⟨rfl, j2, rfl⟩
        go_wp2_with fail
        go_roundw
        case rel => first | exact TaV.mk (l + 1) _ C2 S2 P2 (by omega) (by go_num) rfl rfl rfl (unhide HCL) hgS hpl rfl (unhide HA) (unhide HS2).symm (unhide HP2).symm | (repeat apply Exists.intro; refine ⟨?_, rfl⟩; exact TaV.mk (l + 1) _ C2 S2 P2 (by omega) (by go_num) rfl rfl rfl (unhide HCL) hgS hpl rfl (unhide HA) (unhide HS2).symm (unhide HP2).symm)
        case measure => simp [intOf]; omega
      · have hbit0 : Rot.bitAt s (Rot.lvl at' n l) P = 0 := by omega
        rw [hbit0] at hcb hcode hrk hpos hgS
        have hc1 := fun jj => next_tv b o s at' n l S false (w.drewN jj) ((unhide HT).drewN jj) hn hlt hS
        have hc2 := fun jj => next_tv b o s at' n l P false (w.drewN jj) ((unhide HT).drewN jj) hn hlt (by omega)
        simp only [Bool.toNat_false] at hc1 hc2
        rw [← hrk] at hc1 hgS
        rw [← hpos] at hc2
        have HA : Hid (2 * C = Rot.code s at' n i (l + 1)) := hcode.symm
        have hcl2 : 2 * C < 2 ^ (l + 1) := by rw [hcode] at hcl; exact hcl
        have HCL := hide hcl2
        obtain ⟨C2, hC2e⟩ : ∃ C2 : Nat, C2 = 2 * C := ⟨_, rfl⟩
        rw [← hC2e] at HA HCL
        have hsh : (C : Int) * 2 = (C2 : Int) := by omega
        have hC2b : C2 < 256 := by omega
        generalize hS2 : Rot.rk s at' n (Rot.code s at' n i 8) (l + 1) 0 = S2 at hc1 hgS
        generalize hP2 : Rot.posn s at' n i (l + 1) = P2 at hc2 hpl
        have HS2 := hide hS2
        have HP2 := hide hP2
        have hbe : ((0 : Nat) == 1) = false := rfl
        rw [hbe] at hcb
        clear hS2 hP2 hcode hrk hpos hbit hbit0 hbb HC HS HP hcl2 hcl hb2 hC2e hC
        go_wp2_with fail
        refine (hcb _).mono ?_
        rintro e w0 ⟨rfl, hw0⟩
        subst hw0
        go_wp2_with fail
        refine (hc1 _).mono ?_
        rintro e w1 ⟨rfl, j1, rfl⟩
        go_wp2_with fail
        refine (hc2 _).mono ?_
        rintro e w2 ⟨rfl, j2, rfl⟩
        go_wp2_with fail
        go_roundw
        case rel => first | exact TaV.mk (l + 1) _ C2 S2 P2 (by omega) (by go_num) rfl rfl rfl (unhide HCL) hgS hpl rfl (unhide HA) (unhide HS2).symm (unhide HP2).symm | (repeat apply Exists.intro; refine ⟨?_, rfl⟩; exact TaV.mk (l + 1) _ C2 S2 P2 (by omega) (by go_num) (by go_num) rfl rfl (unhide HCL) hgS hpl rfl (unhide HA) (unhide HS2).symm (unhide HP2).symm)
        case measure => simp [intOf]; omega
    · have hl8 : l = 8 := by omega
      subst hl8
      have HE : Hid (P = S + cn) := by rw [unhide HS, unhide HP]; exact unhide HF
      have hCE := unhide HC
      have HCE := hide hCE
      clear HS HP HF HC hCE hC
      have hle : S ≤ P := by rw [unhide HE]; omega
      go_wp2_with fail
      go_ret2
      refine ⟨?_, _, rfl⟩
      have e1 : ((P : Int) - (S : Int)) = (cn : Int) := by have := unhide HE; omega
      show Ending.returned (.tuple #[.int .u8 (C : Int), .int .i64 ((P : Int) - (S : Int))]) = _
      rw [e1, unhide HCE]
end Go.Proofs.YthlincikgdblfaaGreat
