import Derived.Test.YthlincikgdblfaaGreatV15
import Derived.Deep.RegionWith
namespace Go.Proofs.YthlincikgdblfaaGreat
open Go.RowKit
set_option linter.unusedVariables false

/-- The bytes of a level's bits. -/
def piece (s : List UInt8) (at' n k : Nat) : List UInt8 := (s.drop (Rot.lvl at' n k)).take ((n + 7) / 8)
/-- THE TREE AT AN ADDRESS says what the bytes s say from a place on. -/
structure Tv (w : World) (b o : Nat) (s : List UInt8) (at' n : Nat) : Prop where
  lv : ∀ k, k < 8 → ∃ p a D, w.cell? ⟨b, o + k * 5, none⟩ = some (.int .i64 (Rot.zs s (Rot.lvl at' n k) n : Nat)) ∧ Bv w b (o + k * 5 + 1) p a (piece s at' n k) D n (Rot.os (piece s at' n k) n) ∧ Dir (piece s at' n k) D n
theorem Bv.drewN {w : World} {b o : Nat} {p a : Value} {P : List UInt8} {D : List Nat} {n m : Nat} (h : Bv w b o p a P D n m) (j : Nat) : Bv (w.drewN j) b o p a P D n m := ⟨h.c0, h.c1, h.c2, h.c3, h.packed, h.ahead⟩
theorem Tv.drewN {w : World} {b o : Nat} {s : List UInt8} {at' n : Nat} (h : Tv w b o s at' n) (j : Nat) : Tv (w.drewN j) b o s at' n :=
  ⟨fun k hk => by
    obtain ⟨p, a, D, h1, h2, h3⟩ := h.lv k hk
    exact ⟨p, a, D, h1, h2.drewN j, h3⟩⟩
theorem os_piece (s : List UInt8) (at' n k i : Nat) (hi : i ≤ n) : Rot.os (piece s at' n k) i = i - Rot.zs s (Rot.lvl at' n k) i := by
  unfold Rot.os piece
  rw [Rot.zs_piece s _ _ n (Nat.le_refl _) i hi]
theorem next_tv (b o : Nat) (s : List UInt8) (at' n k i : Nat) (bit : Bool) (w : World) (h : Tv w b o s at' n) (hn : n ≤ 300) (hk : k < 8) (hi : i ≤ n) :
    Calls Tryz.prog 119 #[.pointer (some ⟨b, o + k * 5, none⟩), .int .i64 i, .bool bit] w fun e w' => e = .returned (.int .i64 (Rot.goes s (Rot.lvl at' n k) n bit.toNat i : Nat)) ∧ ∃ j, w' = w.drewN j := by
  obtain ⟨p, a, D, h1, h2, h3⟩ := h.lv k hk
  have hz := Rot.zs_le s (Rot.lvl at' n k) n
  refine (next_any b (o + k * 5) p a _ D n i _ bit w h1 h2 hn hz h3 hi).mono ?_
  rintro e w' ⟨rfl, j, rfl⟩
  refine ⟨ret_int ?_, j, rfl⟩
  have h4 := Rot.zs_le s (Rot.lvl at' n k) i
  rw [os_piece s at' n k i hi]
  unfold Rot.goes
  cases bit
  · simp; omega
  · simp; omega
theorem bit_tv (b o : Nat) (s : List UInt8) (at' n k i : Nat) (w : World) (h : Tv w b o s at' n) (hn : n ≤ 300) (hk : k < 8) (hi : i < n) :
    Calls Tryz.prog 101 #[.pointer (some ⟨b, o + k * 5 + 1, none⟩), .int .i64 i] w fun e w' => e = .returned (.bool (Rot.bitAt s (Rot.lvl at' n k) i == 1)) ∧ w' = w := by
  obtain ⟨p, a, D, h1, h2, h3⟩ := h.lv k hk
  have hl := h3.1
  have := bit_any b (o + k * 5 + 1) p a _ D n _ i w h2 (by omega) (by omega)
  unfold piece at this
  rw [Rot.bit_piece s _ _ i (by omega)] at this
  exact this

/-- Behind l levels of Ahead. -/
def AheadV (s : List UInt8) (at' n c i : Nat) (w : World) (st pl ix : Value) (wr : World) : Prop := ∃ l j S P : Nat, l ≤ 8 ∧ ix = .int .i64 (l : Int) ∧ st = .int .i64 (S : Int) ∧ pl = .int .i64 (P : Int) ∧ S ≤ n ∧ P ≤ n ∧ wr = w.drewN j ∧ Hid (S = Rot.rk s at' n c l 0) ∧ Hid (P = Rot.rk s at' n c l i)
theorem AheadV.mk {s : List UInt8} {at' n c i : Nat} {w wr : World} {st pl ix : Value} (l j S P : Nat) (h1 : l ≤ 8) (h2 : ix = .int .i64 (l : Int)) (h3 : st = .int .i64 (S : Int)) (h4 : pl = .int .i64 (P : Int)) (h5 : S ≤ n) (h6 : P ≤ n) (h7 : wr = w.drewN j) (h8 : S = Rot.rk s at' n c l 0) (h9 : P = Rot.rk s at' n c l i) : AheadV s at' n c i w st pl ix wr := ⟨l, j, S, P, h1, h2, h3, h4, h5, h6, h7, h8, h9⟩
set_option maxHeartbeats 1000000 in
theorem ahead_any (b o : Nat) (s : List UInt8) (at' n i : Nat) (c : UInt8) (w : World) (h : Tv w b o s at' n) (hn : n ≤ 300) (hi : i ≤ n) :
    Calls Tryz.prog 86 #[.pointer (some ⟨b, o, none⟩), .int .u8 (c.toNat : Int), .int .i64 i] w fun e w' => e = .returned (.int .i64 (((Rot.colRead s at' n).take i).countP (fun x => x == c) : Nat)) ∧ ∃ j, w' = w.drewN j := by
  have HT := hide h
  clear h
  have hcx : c.toNat < 256 := c.toNat_lt
  have HF := hide (Rot.rk_count s at' n c i hi)
  generalize ((Rot.colRead s at' n).take i).countP (fun x => x == c) = cn at HF
  generalize c.toNat = x at hcx HF
  go_enter Tryz.func86, Tryz.ntmps86
  go_wp2_with fail
  go_loopw [7, 2, 11] (fun st pl ix wr => AheadV s at' n x i w st pl ix wr) (fun _ _ ix _ => 8 - (intOf ix).toNat)
  case atStart => exact AheadV.mk 0 0 0 i (by omega) rfl rfl rfl (by omega) hi rfl rfl rfl
  case round =>
    obtain ⟨l, j, S, P, hl, rfl, rfl, rfl, hS, hP, rfl, HS, HP⟩ := hrel
    by_cases hlt : l < 8
    · obtain ⟨m, hm⟩ : ∃ m : Nat, m = 7 - l := ⟨_, rfl⟩
      have im : (7 : Int) - (l : Int) = (m : Int) := by omega
      have hm8 : m < 8 := by omega
      have hx2 : x / 2 ^ m < 256 := Nat.lt_of_le_of_lt (Nat.div_le_self _ _) hcx
      obtain ⟨bt, hbt⟩ : ∃ bt : Bool, bt = (x / 2 ^ m % 2 == 1) := ⟨_, rfl⟩
      have hand : (bits BinOp.and IntKind.u8 ((x : Int) / 2 ^ m) 1 == 1) = bt := by
        have e3 := u8_and_nat (x / 2 ^ m) 1 hx2 (by decide)
        rw [Nat.and_one_is_mod] at e3
        have e1 : ((x : Int) / 2 ^ m) = ((x / 2 ^ m : Nat) : Int) := by simp
        rw [e1]
        have e4 : bits BinOp.and IntKind.u8 ((x / 2 ^ m : Nat) : Int) 1 = ((x / 2 ^ m % 2 : Nat) : Int) := e3
        rw [e4, hbt, Bool.eq_iff_iff]
        simp only [beq_iff_eq]
        omega
      have hbn : bt.toNat = x / 2 ^ (7 - l) % 2 := by
        rw [← hm, hbt]
        have : x / 2 ^ m % 2 < 2 := Nat.mod_lt _ (by decide)
        by_cases e : x / 2 ^ m % 2 = 1
        · rw [e]; rfl
        · have : x / 2 ^ m % 2 = 0 := by omega
          rw [this]; rfl
      have HS2 : Hid (Rot.goes s (Rot.lvl at' n l) n bt.toNat S = Rot.rk s at' n x (l + 1) 0) := by rw [unhide HS, hbn]; exact rfl
      have HP2 : Hid (Rot.goes s (Rot.lvl at' n l) n bt.toNat P = Rot.rk s at' n x (l + 1) i) := by rw [unhide HP, hbn]; exact rfl
      have hgS := Rot.goes_le (s := s) (f := Rot.lvl at' n l) (bit := bt.toNat) hS
      have hgP := Rot.goes_le (s := s) (f := Rot.lvl at' n l) (bit := bt.toNat) hP
      have hc1 := fun jj => next_tv b o s at' n l S bt (w.drewN jj) ((unhide HT).drewN jj) hn hlt hS
      have hc2 := fun jj => next_tv b o s at' n l P bt (w.drewN jj) ((unhide HT).drewN jj) hn hlt hP
      generalize Rot.goes s (Rot.lvl at' n l) n bt.toNat S = S2 at HS2 hgS hc1
      generalize Rot.goes s (Rot.lvl at' n l) n bt.toNat P = P2 at HP2 hgP hc2
      clear hm hbt hbn HS HP hx2
      go_wp2_with fail
      refine (hc1 _).mono ?_
      rintro e w1 ⟨rfl, j1, rfl⟩
      go_wp2_with fail
      refine (hc2 _).mono ?_
      rintro e w2 ⟨rfl, j2, rfl⟩
      go_wp2_with fail
      go_roundw
      case rel => first | exact AheadV.mk (l + 1) _ S2 P2 (by omega) (by go_num) rfl rfl hgS hgP rfl (unhide HS2) (unhide HP2) | (repeat apply Exists.intro; refine ⟨?_, rfl⟩; exact AheadV.mk (l + 1) _ S2 P2 (by omega) (by go_num) rfl rfl hgS hgP rfl (unhide HS2) (unhide HP2))
      case measure => simp [intOf]; omega
    · have hl8 : l = 8 := by omega
      subst hl8
      have HE : Hid (P = S + cn) := by rw [unhide HS, unhide HP]; exact unhide HF
      clear HS HP HF
      have hle : S ≤ P := by rw [unhide HE]; omega
      go_wp2_with fail
      go_ret
      exact ⟨ret_int (by have := unhide HE; omega), _, rfl⟩
end Go.Proofs.YthlincikgdblfaaGreat

namespace Go.Proofs.YthlincikgdblfaaGreat
open Go.RowKit
set_option linter.unusedVariables false

/-- Behind l levels of At. -/
def TaV (s : List UInt8) (at' n i : Nat) (w : World) (cv st pl ix : Value) (wr : World) : Prop := ∃ l j C S P : Nat, l ≤ 8 ∧ ix = .int .i64 (l : Int) ∧ cv = .int .u8 (C : Int) ∧ st = .int .i64 (S : Int) ∧ pl = .int .i64 (P : Int) ∧ C < 2 ^ l ∧ S ≤ n ∧ P < n ∧ wr = w.drewN j ∧ Hid (C = Rot.code s at' n i l) ∧ Hid (S = Rot.rk s at' n (Rot.code s at' n i 8) l 0) ∧ Hid (P = Rot.posn s at' n i l)
theorem TaV.mk {s : List UInt8} {at' n i : Nat} {w wr : World} {cv st pl ix : Value} (l j C S P : Nat) (h1 : l ≤ 8) (h2 : ix = .int .i64 (l : Int)) (h0 : cv = .int .u8 (C : Int)) (h3 : st = .int .i64 (S : Int)) (h4 : pl = .int .i64 (P : Int)) (hC : C < 2 ^ l) (h5 : S ≤ n) (h6 : P < n) (h7 : wr = w.drewN j) (h10 : C = Rot.code s at' n i l) (h8 : S = Rot.rk s at' n (Rot.code s at' n i 8) l 0) (h9 : P = Rot.posn s at' n i l) : TaV s at' n i w cv st pl ix wr := ⟨l, j, C, S, P, h1, h2, h0, h3, h4, hC, h5, h6, h7, h10, h8, h9⟩
set_option maxHeartbeats 1000000 in
theorem at_any (b o : Nat) (s : List UInt8) (at' n i : Nat) (w : World) (h : Tv w b o s at' n) (hn : n ≤ 300) (hi : i < n) :
    Calls Tryz.prog 88 #[.pointer (some ⟨b, o, none⟩), .int .i64 i] w fun e w' => e = .returned (.tuple #[.int .u8 (Rot.code s at' n i 8 : Nat), .int .i64 (((Rot.colRead s at' n).take i).countP (fun x => x == Rot.at' (Rot.colRead s at' n) i) : Nat)]) ∧ ∃ j, w' = w.drewN j := by
  have HT := hide h
  clear h
  have hlen : i < (Rot.colRead s at' n).length := by rw [Rot.colRead_len]; exact hi
  have HF : Hid (Rot.posn s at' n i 8 = Rot.rk s at' n (Rot.code s at' n i 8) 8 0 + ((Rot.colRead s at' n).take i).countP (fun x => x == Rot.at' (Rot.colRead s at' n) i)) := by
    have h1 := Rot.rk_posn s at' n hi 8 (Nat.le_refl _)
    have h2 := Rot.rk_count s at' n (Rot.at' (Rot.colRead s at' n) i) i (by omega)
    have h3 : (Rot.at' (Rot.colRead s at' n) i).toNat = Rot.code s at' n i 8 := by
      unfold Rot.at'
      rw [List.getElem?_eq_getElem hlen]
      exact Rot.colRead_get s at' n i hlen
    rw [h3] at h2
    rw [h1]
    exact h2
  generalize ((Rot.colRead s at' n).take i).countP (fun x => x == Rot.at' (Rot.colRead s at' n) i) = cn at HF
  clear hlen
  go_enter Tryz.func88, Tryz.ntmps88
  go_wp2_with fail
  go_loopw [4, 6, 1, 10] (fun cv st pl ix wr => TaV s at' n i w cv st pl ix wr) (fun _ _ _ ix _ => 8 - (intOf ix).toNat)
  case atStart => exact TaV.mk 0 0 0 0 i (by omega) rfl rfl rfl rfl (by decide) (by omega) hi rfl rfl rfl rfl
  case round =>
    obtain ⟨l, j, C, S, P, hl, rfl, rfl, rfl, rfl, hC, hS, hP, rfl, HC, HS, HP⟩ := hrel
    by_cases hlt : l < 8
    · have hC2 : C < 128 := Nat.lt_of_lt_of_le hC (by have : (2 : Nat) ^ l ≤ 2 ^ 7 := Nat.pow_le_pow_right (by decide) (by omega); simpa using this)
      have hcb := fun jj => bit_tv b o s at' n l P (w.drewN jj) ((unhide HT).drewN jj) hn hlt hP
      have hb2 := Rot.bitAt_lt s (Rot.lvl at' n l) P
      have hcode : Rot.code s at' n i (l + 1) = 2 * C + Rot.bitAt s (Rot.lvl at' n l) P := by rw [unhide HC, unhide HP]; rfl
      have hbb : Rot.code s at' n i 8 / 2 ^ (7 - l) % 2 = Rot.bitAt s (Rot.lvl at' n l) P := by rw [unhide HP]; exact Rot.code_bit s at' n i l hlt
      have hrk : Rot.rk s at' n (Rot.code s at' n i 8) (l + 1) 0 = Rot.goes s (Rot.lvl at' n l) n (Rot.bitAt s (Rot.lvl at' n l) P) S := by rw [unhide HS, ← hbb]; rfl
      have hpos : Rot.posn s at' n i (l + 1) = Rot.goes s (Rot.lvl at' n l) n (Rot.bitAt s (Rot.lvl at' n l) P) P := by rw [unhide HP]; rfl
      have hpl := Rot.posn_lt s at' n i hi (l + 1)
      have hcl := Rot.code_lt s at' n i (l + 1)
      have hgS := Rot.goes_le (s := s) (f := Rot.lvl at' n l) (bit := Rot.bitAt s (Rot.lvl at' n l) P) hS
      by_cases hbit : Rot.bitAt s (Rot.lvl at' n l) P = 1
      · rw [hbit] at hcb hcode hrk hpos hgS
        have hc1 := fun jj => next_tv b o s at' n l S true (w.drewN jj) ((unhide HT).drewN jj) hn hlt hS
        have hc2 := fun jj => next_tv b o s at' n l P true (w.drewN jj) ((unhide HT).drewN jj) hn hlt (by omega)
        simp only [Bool.toNat_true] at hc1 hc2
        rw [← hrk] at hc1 hgS
        rw [← hpos] at hc2
        have HA : Hid (2 * C + 1 = Rot.code s at' n i (l + 1)) := hcode.symm
        have hcl2 : 2 * C + 1 < 2 ^ (l + 1) := by rw [hcode] at hcl; exact hcl
        have HCL := hide hcl2
        have hor : bits BinOp.or IntKind.u8 ((C : Int) * 2) 1 = ((2 * C + 1 : Nat) : Int) := by
          have e := u8_or_nat (C * 2) 1 (by omega) (by decide)
          rw [nat_join 1 (C * 2) 1 (by omega) (by decide)] at e
          have e0 : ((C * 2 : Nat) : Int) = (C : Int) * 2 := by simp
          rw [e0] at e
          rw [show 2 * C + 1 = C * 2 + 1 by omega]
          exact e
        obtain ⟨C2, hC2e⟩ : ∃ C2 : Nat, C2 = 2 * C + 1 := ⟨_, rfl⟩
        rw [← hC2e] at hor HA HCL
        have hC2b : C2 < 256 := by omega
        have HSX : Hid (Rot.rk s at' n (Rot.code s at' n i 8) (l + 1) 0 = Rot.rk s at' n (Rot.code s at' n i 8) (l + 1) 0) := rfl
        generalize hS2 : Rot.rk s at' n (Rot.code s at' n i 8) (l + 1) 0 = S2 at hc1 hgS
        generalize hP2 : Rot.posn s at' n i (l + 1) = P2 at hc2 hpl
        have HS2 := hide hS2
        have HP2 := hide hP2
        have hbe : ((1 : Nat) == 1) = true := rfl
        rw [hbe] at hcb
        clear hS2 hP2 HSX hcode hrk hpos hbit hbb HC HS HP hcl2 hcl hb2 hC2e hC
        go_wp2_with fail
        refine (hcb _).mono ?_
        rintro e w0 ⟨rfl, hw0⟩
        subst hw0
        go_wp2_with fail
        refine (hc1 _).mono ?_
        rintro e w1 ⟨rfl, j1, rfl⟩
        go_wp2_with fail
        refine (hc2 _).mono ?_
        rintro e w2 ⟨rfl, j2, rfl⟩
        go_wp2_with fail
        go_roundw
        case rel => first | exact TaV.mk (l + 1) _ C2 S2 P2 (by omega) (by go_num) rfl rfl rfl (unhide HCL) hgS hpl rfl (unhide HA) (unhide HS2).symm (unhide HP2).symm | (repeat apply Exists.intro; refine ⟨?_, rfl⟩; exact TaV.mk (l + 1) _ C2 S2 P2 (by omega) (by go_num) rfl rfl rfl (unhide HCL) hgS hpl rfl (unhide HA) (unhide HS2).symm (unhide HP2).symm)
        case measure => simp [intOf]; omega
      · have hbit0 : Rot.bitAt s (Rot.lvl at' n l) P = 0 := by omega
        rw [hbit0] at hcb hcode hrk hpos hgS
        have hc1 := fun jj => next_tv b o s at' n l S false (w.drewN jj) ((unhide HT).drewN jj) hn hlt hS
        have hc2 := fun jj => next_tv b o s at' n l P false (w.drewN jj) ((unhide HT).drewN jj) hn hlt (by omega)
        simp only [Bool.toNat_false] at hc1 hc2
        rw [← hrk] at hc1 hgS
        rw [← hpos] at hc2
        have HA : Hid (2 * C = Rot.code s at' n i (l + 1)) := hcode.symm
        have hcl2 : 2 * C < 2 ^ (l + 1) := by rw [hcode] at hcl; exact hcl
        have HCL := hide hcl2
        obtain ⟨C2, hC2e⟩ : ∃ C2 : Nat, C2 = 2 * C := ⟨_, rfl⟩
        rw [← hC2e] at HA HCL
        have hsh : (C : Int) * 2 = (C2 : Int) := by omega
        have hC2b : C2 < 256 := by omega
        generalize hS2 : Rot.rk s at' n (Rot.code s at' n i 8) (l + 1) 0 = S2 at hc1 hgS
        generalize hP2 : Rot.posn s at' n i (l + 1) = P2 at hc2 hpl
        have HS2 := hide hS2
        have HP2 := hide hP2
        have hbe : ((0 : Nat) == 1) = false := rfl
        rw [hbe] at hcb
        clear hS2 hP2 hcode hrk hpos hbit hbit0 hbb HC HS HP hcl2 hcl hb2 hC2e hC
        go_wp2_with fail
        refine (hcb _).mono ?_
        rintro e w0 ⟨rfl, hw0⟩
        subst hw0
        go_wp2_with fail
        refine (hc1 _).mono ?_
        rintro e w1 ⟨rfl, j1, rfl⟩
        go_wp2_with fail
        refine (hc2 _).mono ?_
        rintro e w2 ⟨rfl, j2, rfl⟩
        go_wp2_with fail
        go_roundw
        case rel => first | exact TaV.mk (l + 1) _ C2 S2 P2 (by omega) (by go_num) rfl rfl rfl (unhide HCL) hgS hpl rfl (unhide HA) (unhide HS2).symm (unhide HP2).symm | (repeat apply Exists.intro; refine ⟨?_, rfl⟩; exact TaV.mk (l + 1) _ C2 S2 P2 (by omega) (by go_num) (by go_num) rfl rfl (unhide HCL) hgS hpl rfl (unhide HA) (unhide HS2).symm (unhide HP2).symm)
        case measure => simp [intOf]; omega
    · have hl8 : l = 8 := by omega
      subst hl8
      have HE : Hid (P = S + cn) := by rw [unhide HS, unhide HP]; exact unhide HF
      have hCE := unhide HC
      have HCE := hide hCE
      clear HS HP HF HC hCE hC
      have hle : S ≤ P := by rw [unhide HE]; omega
      go_wp2_with fail
      go_ret2
      refine ⟨?_, _, rfl⟩
      have e1 : ((P : Int) - (S : Int)) = (cn : Int) := by have := unhide HE; omega
      show Ending.returned (.tuple #[.int .u8 (C : Int), .int .i64 ((P : Int) - (S : Int))]) = _
      rw [e1, unhide HCE]
end Go.Proofs.YthlincikgdblfaaGreat

namespace Go.Proofs.YthlincikgdblfaaGreat
set_option linter.unusedVariables false
namespace Rot
theorem lower_to (col : List UInt8) (j : Nat) (hj : j ≤ col.length) : ∀ m, m ≤ col.length → (List.range m).countP (fun k => ahead col k j) = (col.take m).countP (fun x => decide (x < at' col j)) + (col.take (min m j)).countP (fun x => x == at' col j)
  | 0, _ => by simp
  | m + 1, h => by
    have hm : m < col.length := by omega
    rw [List.range_succ, List.countP_append, lower_to col j hj m (by omega), List.take_succ_eq_append_getElem hm, List.countP_append]
    simp only [List.countP_cons, List.countP_nil, Nat.zero_add]
    have e : at' col m = col[m] := by unfold at'; rw [List.getElem?_eq_getElem hm]; rfl
    unfold ahead
    rw [e]
    by_cases hmj : m < j
    · rw [show min (m + 1) j = m + 1 by omega, show min m j = m by omega, List.take_succ_eq_append_getElem hm, List.countP_append]
      simp only [List.countP_cons, List.countP_nil, Nat.zero_add]
      have hd : decide (m < j) = true := by simpa using hmj
      rw [hd]
      by_cases h1 : col[m] < at' col j
      · have h2 : (col[m] == at' col j) = false := by
          simp only [beq_eq_false_iff_ne]
          intro e2
          rw [e2] at h1
          exact absurd h1 (by rw [UInt8.lt_iff_toNat_lt]; omega)
        rw [h2]
        simp [h1]
        omega
      · by_cases h3 : col[m] = at' col j
        · simp [h3, UInt8.lt_iff_toNat_lt]
          omega
        · simp [h1, h3]
    · rw [show min (m + 1) j = j by omega, show min m j = j by omega]
      have hd : decide (m < j) = false := by simpa using hmj
      rw [hd]
      simp
      omega
theorem lower_split (col : List UInt8) (j : Nat) (hj : j ≤ col.length) : lower col j = (col.filter fun x => decide (x.toNat < (at' col j).toNat)).length + (col.take j).countP (fun x => x == at' col j) := by
  unfold lower
  rw [lower_to col j hj col.length (Nat.le_refl _), List.take_length, show min col.length j = j by omega, ← List.countP_eq_length_filter]
  congr 1
/-- A step back, by FIRST and the equal bytes ahead. -/
theorem back_first (col : List UInt8) (last i : Nat) (hp : placeOf last i < col.length) : back col last i = belowOf col (at' col (placeOf last i)).toNat + (col.take (placeOf last i)).countP (fun x => x == at' col (placeOf last i)) := by
  unfold back belowOf
  rw [lower_split col _ (by omega), Nat.add_assoc]
theorem below_succ (col : List UInt8) (c : UInt8) : belowOf col (c.toNat + 1) = belowOf col c.toNat + col.countP (fun x => x == c) := by
  unfold belowOf
  rw [Nat.add_assoc]
  congr 1
  rw [← List.countP_eq_length_filter, ← List.countP_eq_length_filter]
  induction col with
  | nil => rfl
  | cons a l ih =>
    simp only [List.countP_cons, ih]
    by_cases h1 : a.toNat < c.toNat
    · have h2 : (a == c) = false := by
        simp only [beq_eq_false_iff_ne]
        intro e; subst e; omega
      have h3 : a.toNat < c.toNat + 1 := by omega
      rw [h2]
      simp [h1, h3]
      omega
    · by_cases h2 : a = c
      · subst h2
        simp
        omega
      · have h3 : ¬ a.toNat < c.toNat + 1 := by
          intro h
          apply h2
          apply UInt8.toNat_inj.1
          omega
        simp [h1, h2, h3]
theorem below_zero (col : List UInt8) : belowOf col 0 = 1 := by simp [belowOf]
theorem below_le (col : List UInt8) (c : Nat) : belowOf col c ≤ 1 + col.length := by
  unfold belowOf
  have := List.length_filter_le (fun b : UInt8 => decide (b.toNat < c)) col
  omega
/-- That the steps come to the last row needs no looking at: all others have been met. -/
theorem whole_of {col : List UInt8} {last : Nat} (hl : last ≤ col.length) (on : ∀ k, k < col.length → walk col last k ≠ last) : Whole col last := by
  have le : ∀ k, k ≤ col.length → walk col last k ≤ col.length := by
    intro k
    induction k with
    | zero => intro _; exact Nat.zero_le _
    | succ k ih =>
      intro h
      have h2 := lower_bound (placeOf_lt hl (ih (by omega)) (on k (by omega)))
      show 1 + lower col (placeOf last (walk col last k)) ≤ col.length
      omega
  have inj : ∀ a b, a ≤ col.length → b ≤ col.length → walk col last a = walk col last b → a = b := by
    intro a
    induction a with
    | zero =>
      intro b _ _ h
      cases b with
      | zero => rfl
      | succ b => simp only [walk, back] at h; omega
    | succ a ih =>
      intro b ha hb h
      cases b with
      | zero => simp only [walk, back] at h; omega
      | succ b =>
        have h1 : lower col (placeOf last (walk col last a)) = lower col (placeOf last (walk col last b)) := by simp only [walk, back] at h; omega
        have h2 := lower_inj (placeOf_lt hl (le a (by omega)) (on a (by omega))) (placeOf_lt hl (le b (by omega)) (on b (by omega))) h1
        have h3 := placeOf_inj (on a (by omega)) (on b (by omega)) h2
        rw [ih b (by omega) (by omega) h3]
  have hperm : ((List.range (col.length + 1)).map (walk col last)).Perm (List.range (col.length + 1)) := by
    refine nodup_full _ _ ?_ ?_ (by simp)
    · rw [List.nodup_iff_pairwise_ne, List.pairwise_map]
      refine List.Pairwise.imp_of_mem ?_ List.nodup_range
      intro a b ha hb hab h
      exact hab (inj a b (by have := List.mem_range.1 ha; omega) (by have := List.mem_range.1 hb; omega) h)
    · intro x hx
      obtain ⟨k, hk, rfl⟩ := List.mem_map.1 hx
      have := le k (by have := List.mem_range.1 hk; omega)
      omega
  have hm : last ∈ (List.range (col.length + 1)).map (walk col last) := hperm.mem_iff.2 (List.mem_range.2 (by omega))
  obtain ⟨k, hk, hkl⟩ := List.mem_map.1 hm
  have hk := List.mem_range.1 hk
  have : k = col.length := by
    rcases Nat.lt_or_ge k col.length with h | h
    · exact absurd hkl (on k h)
    · omega
  subst this
  exact ⟨hl, on, hkl⟩
end Rot
end Go.Proofs.YthlincikgdblfaaGreat

namespace Go.Proofs.YthlincikgdblfaaGreat
open Go.RowKit
set_option linter.unusedVariables false

/-- THE ROWS AT BLOCK x: what they say of the bytes s. -/
structure Xv (w : World) (x : Nat) (s : List UInt8) (n r last : Nat) (F : Nat → Nat) (M : List UInt8) (Q : List Nat) : Prop where
  len : w.cell? ⟨x, 0, none⟩ = some (.int .i64 (n : Int))
  rate : w.cell? ⟨x, 1, none⟩ = some (.int .i64 (r : Int))
  last : w.cell? ⟨x, 2, none⟩ = some (.int .i64 (last : Int))
  tree : Tv w x 3 s 44 n
  first : ∀ c, c < 256 → w.cell? ⟨x, 43 + c, none⟩ = some (.int .u16 (F c : Nat)) ∧ F c < 65536
  marks : ∃ p a D, Bv w x 299 p a M D (n + 1) (Rot.os M (n + 1)) ∧ Dir M D (n + 1)
  places : ∃ v, w.cell? ⟨x, 303, none⟩ = some v ∧ Us w 0 v Q
theorem Xv.drewN {w : World} {x : Nat} {s : List UInt8} {n r last : Nat} {F : Nat → Nat} {M : List UInt8} {Q : List Nat} (h : Xv w x s n r last F M Q) (j : Nat) : Xv (w.drewN j) x s n r last F M Q := by
  obtain ⟨p, a, D, hb, hd⟩ := h.marks
  exact ⟨h.len, h.rate, h.last, h.tree.drewN j, h.first, ⟨p, a, D, hb.drewN j, hd⟩, h.places⟩
/-- Where the byte of a row stands in the column. -/
theorem inColumn_any (x last i : Nat) (w : World) (h : w.cell? ⟨x, 2, none⟩ = some (.int .i64 (last : Int))) (hl : last ≤ 300) (hi : i ≤ 300) :
    Calls Tryz.prog 89 #[.pointer (some ⟨x, 0, none⟩), .int .i64 i] w fun e w' => e = .returned (.int .i64 (Rot.placeOf last i : Nat)) ∧ w' = w := by
  by_cases hgt : last < i
  · have e : Rot.placeOf last i = i - 1 := by unfold Rot.placeOf; rw [if_pos hgt]
    rw [e]
    obtain ⟨i', hi'⟩ : ∃ i' : Nat, i = i' + 1 := ⟨i - 1, by omega⟩
    subst hi'
    rw [Nat.add_sub_cancel]
    have hd : decide ((last : Int) < ((i' + 1 : Nat) : Int)) = true := by simp; omega
    clear e
    go_enter Tryz.func89, Tryz.ntmps89
    go_wp2_with fail
    go_ret
    exact ⟨by first | rfl | go_num, rfl⟩
  · have e : Rot.placeOf last i = i := by unfold Rot.placeOf; rw [if_neg hgt]
    rw [e]
    have hd : decide ((last : Int) < (i : Int)) = false := by simp; omega
    clear e
    go_enter Tryz.func89, Tryz.ntmps89
    go_wp2_with fail
    go_ret
    exact ⟨rfl, rfl⟩
/-- A step back. -/
theorem rowsBack_any (x : Nat) (s : List UInt8) (n r last : Nat) (F : Nat → Nat) (M : List UInt8) (Q : List Nat) (i : Nat) (w : World) (h : Xv w x s n r last F M Q) (hF : ∀ c, c < 256 → F c = Rot.belowOf (Rot.colRead s 44 n) c) (hn : n ≤ 250) (hl : last ≤ n) (hi : i ≤ n) (hne : i ≠ last) :
    Calls Tryz.prog 59 #[.pointer (some ⟨x, 0, none⟩), .int .i64 i] w fun e w' => e = .returned (.tuple #[.int .u8 ((Rot.at' (Rot.colRead s 44 n) (Rot.placeOf last i)).toNat : Nat), .int .i64 (Rot.back (Rot.colRead s 44 n) last i : Nat)]) ∧ ∃ j, w' = w.drewN j := by
  have hp := Rot.placeOf_lt hl hi hne
  have hcl := Rot.colRead_len s 44 n
  have hB := Rot.back_first (Rot.colRead s 44 n) last i (by omega)
  have hcode : (Rot.at' (Rot.colRead s 44 n) (Rot.placeOf last i)).toNat = Rot.code s 44 n (Rot.placeOf last i) 8 := by
    have hlen : Rot.placeOf last i < (Rot.colRead s 44 n).length := by omega
    unfold Rot.at'
    rw [List.getElem?_eq_getElem hlen]
    exact Rot.colRead_get s 44 n _ hlen
  have hcx : (Rot.at' (Rot.colRead s 44 n) (Rot.placeOf last i)).toNat < 256 := (Rot.at' (Rot.colRead s 44 n) (Rot.placeOf last i)).toNat_lt
  have hfc := (h.first _ hcx).1
  rw [hF _ hcx] at hfc
  have hbl := Rot.below_le (Rot.colRead s 44 n) (Rot.at' (Rot.colRead s 44 n) (Rot.placeOf last i)).toNat
  have hcount : ((Rot.colRead s 44 n).take (Rot.placeOf last i)).countP (fun x => x == Rot.at' (Rot.colRead s 44 n) (Rot.placeOf last i)) ≤ 300 := by
    have := List.countP_le_length (p := fun x => x == Rot.at' (Rot.colRead s 44 n) (Rot.placeOf last i)) (l := (Rot.colRead s 44 n).take (Rot.placeOf last i))
    rw [List.length_take] at this
    omega
  have hcon := fun w' h' => at_any x 3 s 44 n (Rot.placeOf last i) w' h' (by omega) hp
  rw [← hcode] at hcon
  have clast := h.last
  have HT := hide h.tree
  clear h hF hcode
  generalize (Rot.at' (Rot.colRead s 44 n) (Rot.placeOf last i)).toNat = c at hB hcx hfc hbl hcon
  generalize ((Rot.colRead s 44 n).take (Rot.placeOf last i)).countP (fun x => x == Rot.at' (Rot.colRead s 44 n) (Rot.placeOf last i)) = cn at hB hcount hcon
  generalize Rot.belowOf (Rot.colRead s 44 n) c = bo at hB hfc hbl
  generalize Rot.back (Rot.colRead s 44 n) last i = bk at hB
  rw [hcl] at hbl
  have HB := hide hB
  clear hB hcl
  have hcon2 := fun jj => hcon (w.drewN jj) ((unhide HT).drewN jj)
  have hic := fun jj => inColumn_any x last i (w.drewN jj) clast (by omega) (by omega)
  generalize Rot.placeOf last i = pl at hcon2 hp hic hcon
  clear hcon HT
  go_enter Tryz.func59, Tryz.ntmps59
  go_wp2_with fail
  go_quiet (first | (go_at_call 88; exact Calls.quiet_of (hcon2 _)) | (go_at_call 89; exact Calls.quiet_of_same (hic _)))
  clear hcon2 hic
  go_wp2_with fail
  go_quiet (fail)
  go_wp2_with fail
  go_ret2
  refine ⟨?_, _, World.drewN_drewN _ _ _⟩
  rw [unhide HB]
  rfl
end Go.Proofs.YthlincikgdblfaaGreat
