import Derived.Test.YthlincikgdblfaaGreatV02
import Derived.BigRegion
import Derived.WalkSmall
namespace Go.Proofs.YthlincikgdblfaaGreat
open Go.RowKit
set_option linter.unusedVariables false
set_option linter.unusedSimpArgs false

/-- What Add leaves. -/
def Added (w w' : World) (B b : Nat) (r : Rot.Row) (bit : Bool) : Prop := ∃ p' a', Bit w' B b p' a' (r.add bit) ∧ Below B w w'

theorem close_false {w W : World} {B b : Nat} {p a : Value} {r r1 : Rot.Row} (EB : Bit W B b p a r1) (EW : Below B w W) (hr : r.add false = ⟨r1.packed, r1.ahead, r1.count + 1, r1.ones⟩) :
    Added w (W.setCell ⟨b, 2, none⟩ (.int .i64 ((r1.count : Int) + 1))) B b r false := by
  obtain ⟨h1, h2⟩ := EB.put2 (r1.count + 1) ((r1.count : Int) + 1) (by omega)
  exact ⟨p, a, by rw [hr]; exact h1, EW.trans h2⟩
theorem pow8 (k : Nat) : ((UInt8.ofNat (2 ^ k)).toNat : Int) = (2 : Int) ^ k % 256 := by
  rw [UInt8.toNat_ofNat']
  simp
theorem close_true {w W : World} {B b gp cp : Nat} {a : Value} {r r1 : Rot.Row} (EB : Bit W B b (.slice (some ⟨gp, 0, none⟩) r1.packed.length cp) a r1) (EW : Below B w W) (c : UInt8) (hj : r1.count / 8 < r1.packed.length) (hcc : r1.packed[r1.count / 8]'hj = c)
    (n o : Nat) (N : Int) (hn : n = r1.count) (ho : o = r1.ones) (hN : N = ((c ||| UInt8.ofNat (2 ^ (r1.count % 8))).toNat : Int))
    (hr : r.add true = ⟨r1.packed.set (r1.count / 8) (c ||| UInt8.ofNat (2 ^ (r1.count % 8))), r1.ahead, r1.count + 1, r1.ones + 1⟩) :
    Added w ((((W.setCell ⟨gp, n / 8, none⟩ (.int .u8 N)).setCell ⟨b, 3, none⟩ (.int .u16 ((o : Int) + 1))).setCell ⟨b, 2, none⟩ (.int .i64 ((n : Int) + 1))).drew) B b r true := by
  subst hn ho
  obtain ⟨h1, h2⟩ := EB.putP (r1.count / 8) (c ||| UInt8.ofNat (2 ^ (r1.count % 8))) N hN
  obtain ⟨h3, h4⟩ := h1.put3 (r1.ones + 1) ((r1.ones : Int) + 1) (by omega)
  obtain ⟨h5, h6⟩ := h3.put2 (r1.count + 1) ((r1.count : Int) + 1) (by omega)
  exact ⟨_, a, by rw [hr]; exact h5.drew, ((EW.trans h2).trans h4).trans h6.drew⟩
theorem below_drewN {B k : Nat} {w w' : World} (h : Below B w w') : Below B w (w'.drewN k) := ⟨h.os, h.tape, h.output, h.size, h.block⟩

set_option maxRecDepth 100000 in
set_option maxHeartbeats 1000000 in
theorem add_0f (B b : Nat) (p a : Value) (r : Rot.Row) (w : World) (h : Bit w B b p a r) (hc : r.count < 1000) (ho : r.ones ≤ r.count) (hl : r.packed.length = (r.count + 7) / 8) (hd : r.ahead.length = (r.count + 15) / 16) (h8 : ¬ r.count % 8 = 0) :
    Calls Tryz.prog 128 #[.pointer (some ⟨b, 0, none⟩), .bool false] w fun e w' => e = .returned (.tuple #[]) ∧ Added w w' B b r false := by
  have hBw : B ≤ w.heap.size := Nat.le_trans h.le (Nat.le_of_lt h.lt)
  have t8 : ((r.count : Int) % 8 == 0) = false := by simp; omega
  have t16 : ((r.count : Int) % 16 == 0) = false := by simp; omega
  have HL := hide hl
  have HDL := hide hd
  clear hl hd
  have h16 : ¬ r.count % 16 = 0 := by omega
  obtain ⟨gp, cp, rfl⟩ : ∃ g cap, p = .slice (some ⟨g, 0, none⟩) r.packed.length cap := by
    rcases h.packed.form with ⟨_, e⟩ | ⟨g, cap, hv, _⟩
    · have := unhide HL
      rw [e] at this
      simp at this
      omega
    · exact ⟨g, cap, hv⟩
  have EB := hide h
  have EW := hide (Below.refl B w)
  clear h
  have g2 := (unhide EB).c2
  have k2 := (unhide EB).f2
  go_enter Tryz.func128, Tryz.ntmps128
  go_wp2_with fail
  go_end0
  exact ⟨rfl, close_false (r1 := r) (unhide EB) (unhide EW) (by simp [Rot.Row.add, Rot.addBit, Rot.addAhead, h8, h16])⟩

set_option maxRecDepth 100000 in
set_option maxHeartbeats 1000000 in
theorem add_0t (B b : Nat) (p a : Value) (r : Rot.Row) (w : World) (h : Bit w B b p a r) (hc : r.count < 1000) (ho : r.ones ≤ r.count) (hl : r.packed.length = (r.count + 7) / 8) (hd : r.ahead.length = (r.count + 15) / 16) (h8 : ¬ r.count % 8 = 0) :
    Calls Tryz.prog 128 #[.pointer (some ⟨b, 0, none⟩), .bool true] w fun e w' => e = .returned (.tuple #[]) ∧ Added w w' B b r true := by
  have hBw : B ≤ w.heap.size := Nat.le_trans h.le (Nat.le_of_lt h.lt)
  have t8 : ((r.count : Int) % 8 == 0) = false := by simp; omega
  have t16 : ((r.count : Int) % 16 == 0) = false := by simp; omega
  have HL := hide hl
  have HDL := hide hd
  clear hl hd
  have h16 : ¬ r.count % 16 = 0 := by omega
  obtain ⟨gp, cp, rfl⟩ : ∃ g cap, p = .slice (some ⟨g, 0, none⟩) r.packed.length cap := by
    rcases h.packed.form with ⟨_, e⟩ | ⟨g, cap, hv, _⟩
    · have := unhide HL
      rw [e] at this
      simp at this
      omega
    · exact ⟨g, cap, hv⟩
  have EB := hide h
  have EW := hide (Below.refl B w)
  clear h
  have g0 := (unhide EB).c0
  have g2 := (unhide EB).c2
  have g3 := (unhide EB).c3
  have k2 := (unhide EB).f2
  have k3 := (unhide EB).f3
  have hj : r.count / 8 < (r.packed).length := by have := unhide HL; simp; omega
  have hj2 : r.count / 8 < r.packed.length + 0 := by simpa using hj
  have hcp := (unhide EB).packed.cell (r.count / 8) hj
  have hfp := (unhide EB).packed.frozen (r.count / 8)
  generalize hcc : (r.packed)[r.count / 8]'hj = c at hcp
  have HCC := hide hcc
  clear hcc
  have n1 : ¬ gp = b := fun e => (unhide EB).pb (by simp [Value.ownBlock, e])
  have n2 : ¬ b = gp := fun e => n1 e.symm
  go_enter Tryz.func128, Tryz.ntmps128
  go_wp2_with fail
  go_region
  go_wp2
  go_end0
  refine ⟨rfl, close_true (r1 := r) (unhide EB) (unhide EW) c hj (unhide HCC) r.count r.ones _ rfl rfl ?_ (by simp [Rot.Row.add, Rot.addBit, Rot.addAhead, h8, h16, List.getElem?_eq_getElem hj, unhide HCC])⟩
  rw [← or8, pow8]

set_option maxRecDepth 100000 in
set_option maxHeartbeats 1000000 in
theorem add_8f (B b : Nat) (p a : Value) (r : Rot.Row) (w : World) (h : Bit w B b p a r) (hc : r.count < 1000) (ho : r.ones ≤ r.count) (hl : r.packed.length = (r.count + 7) / 8) (hd : r.ahead.length = (r.count + 15) / 16) (h8 : r.count % 8 = 0) (h16 : ¬ r.count % 16 = 0) :
    Calls Tryz.prog 128 #[.pointer (some ⟨b, 0, none⟩), .bool false] w fun e w' => e = .returned (.tuple #[]) ∧ Added w w' B b r false := by
  have hBw : B ≤ w.heap.size := Nat.le_trans h.le (Nat.le_of_lt h.lt)
  have t8 : ((r.count : Int) % 8 == 0) = true := by simp; omega
  have t16 : ((r.count : Int) % 16 == 0) = false := by simp; omega
  have HL := hide hl
  have HDL := hide hd
  clear hl hd
  have g0 := h.c0
  have g2 := h.c2
  have H := hide h
  clear h
  go_enter Tryz.func128, Tryz.ntmps128
  go_wp2_with (at_builtin; refine wp_app1 _ rfl (.tmp 14) (.tmp 15) rfl B _ r.packed rfl w _ rfl rfl (unhide H).packed 0 rfl ?l0 hBw ?_)
  case l0 => have := unhide HL; omega
  intro p1 w1 A1
  obtain ⟨gp, cp, rfl⟩ := A1.slice (by simp)
  obtain ⟨c0, c1, c2, c3, f0, f1, f2, f3⟩ := (unhide H).cells A1.grown (unhide H).pb
  have E := (unhide H).app0 A1
  simp only [List.length_append, List.length_cons, List.length_nil, Nat.zero_add] at E
  have EB := hide E.1
  have EW := hide E.2
  clear A1 g0 g2 E H
  go_wp2_with fail
  go_end0
  exact ⟨rfl, close_false (r1 := ⟨r.packed ++ [0], r.ahead, r.count, r.ones⟩) (unhide EB) (unhide EW) (by simp [Rot.Row.add, Rot.addBit, Rot.addAhead, h8, h16])⟩

set_option maxRecDepth 100000 in
set_option maxHeartbeats 1000000 in
theorem add_8t (B b : Nat) (p a : Value) (r : Rot.Row) (w : World) (h : Bit w B b p a r) (hc : r.count < 1000) (ho : r.ones ≤ r.count) (hl : r.packed.length = (r.count + 7) / 8) (hd : r.ahead.length = (r.count + 15) / 16) (h8 : r.count % 8 = 0) (h16 : ¬ r.count % 16 = 0) :
    Calls Tryz.prog 128 #[.pointer (some ⟨b, 0, none⟩), .bool true] w fun e w' => e = .returned (.tuple #[]) ∧ Added w w' B b r true := by
  have hBw : B ≤ w.heap.size := Nat.le_trans h.le (Nat.le_of_lt h.lt)
  have t8 : ((r.count : Int) % 8 == 0) = true := by simp; omega
  have t16 : ((r.count : Int) % 16 == 0) = false := by simp; omega
  have HL := hide hl
  have HDL := hide hd
  clear hl hd
  have g0 := h.c0
  have g2 := h.c2
  have H := hide h
  clear h
  go_enter Tryz.func128, Tryz.ntmps128
  go_wp2_with (at_builtin; refine wp_app1 _ rfl (.tmp 14) (.tmp 15) rfl B _ r.packed rfl w _ rfl rfl (unhide H).packed 0 rfl ?l0 hBw ?_)
  case l0 => have := unhide HL; omega
  intro p1 w1 A1
  obtain ⟨gp, cp, rfl⟩ := A1.slice (by simp)
  obtain ⟨c0, c1, c2, c3, f0, f1, f2, f3⟩ := (unhide H).cells A1.grown (unhide H).pb
  have E := (unhide H).app0 A1
  simp only [List.length_append, List.length_cons, List.length_nil, Nat.zero_add] at E
  have EB := hide E.1
  have EW := hide E.2
  clear A1 g0 g2 E H
  go_wp2_with fail
  generalize hw2 : w1.setCell ⟨b, 0, none⟩ (.slice (some ⟨gp, 0, none⟩) (r.packed.length + 1) cp) = w2 at EB EW
  clear hw2 c0 c1 c2 c3 f0 f1 f2 f3
  have g0 := (unhide EB).c0
  have g2 := (unhide EB).c2
  have g3 := (unhide EB).c3
  have k2 := (unhide EB).f2
  have k3 := (unhide EB).f3
  have hj : r.count / 8 < (r.packed ++ [0]).length := by have := unhide HL; simp; omega
  have hj2 : r.count / 8 < r.packed.length + 1 := by simpa using hj
  have hcp := (unhide EB).packed.cell (r.count / 8) hj
  have hfp := (unhide EB).packed.frozen (r.count / 8)
  generalize hcc : (r.packed ++ [0])[r.count / 8]'hj = c at hcp
  have HCC := hide hcc
  clear hcc
  have n1 : ¬ gp = b := fun e => (unhide EB).pb (by simp [Value.ownBlock, e])
  have n2 : ¬ b = gp := fun e => n1 e.symm
  go_region
  go_wp2
  go_end0
  refine ⟨rfl, close_true (r1 := ⟨r.packed ++ [0], r.ahead, r.count, r.ones⟩) (by simpa using unhide EB) (unhide EW) c hj (unhide HCC) r.count r.ones _ rfl rfl ?_ (by simp [Rot.Row.add, Rot.addBit, Rot.addAhead, h8, h16, List.getElem?_eq_getElem hj, unhide HCC])⟩
  show _ = ((c ||| UInt8.ofNat (2 ^ (r.count % 8))).toNat : Int)
  rw [h8]
  exact or8 c 1
end Go.Proofs.YthlincikgdblfaaGreat
