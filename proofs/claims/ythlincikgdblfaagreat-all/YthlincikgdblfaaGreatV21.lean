import Derived.Test.YthlincikgdblfaaGreatV20
import Derived.Laws.IdiomStrings
namespace Go.Proofs.YthlincikgdblfaaGreat
open Go.RowKit
set_option linter.unusedVariables false

theorem sum_piece (g : Nat) (v : Value) (l : List UInt8) (w : World) (h : Vw w g v l) :
    Calls Tryz.prog 63 #[v] w fun e w' => e = .returned (.int .u32 (Rot.sumOf l)) ∧ w' = w := by
  obtain ⟨off, cap, rfl, hl, hcap, hc⟩ := h
  go_enter Tryz.func63, Tryz.ntmps63
  go_wp2_with fail
  go_loop [3, 8] (fun s i => ∃ k : Nat, k ≤ l.length ∧ i = .int .i64 k ∧ s = .int .u32 (Rot.sumOf (l.take k))) (fun _ i => l.length - (intOf i).toNat)
  case atStart => exact ⟨0, Nat.zero_le _, rfl, rfl⟩
  case round =>
    obtain ⟨k, hk, rfl, rfl⟩ := hrel
    by_cases hlt : k < l.length
    · have hck := hc k hlt
      have hbl := (l[k]'hlt).toNat_lt
      have hsl := sum_lt (l.take k)
      have HS : Hid (Rot.sumOf (l.take (k + 1)) = Rot.sumStep (Rot.sumOf (l.take k)) (l[k]'hlt)) := sum_snoc l k hlt
      clear hc
      go_wp2
      go_round
      case rel =>
        refine ⟨k + 1, by omega, by go_num, ?_⟩
        rw [HS.out]
        unfold Rot.sumStep
        exact num_eq (by omega)
      case measure => simp [intOf]; omega
    · have hk' : k = l.length := by omega
      subst hk'
      clear hc
      go_wp2
      go_ret
      exact ⟨rfl, rfl⟩
/-- A section at an address: its bytes, and what its reader has left. -/
structure Lk (w : World) (b o g R : Nat) (v u : Value) (l rest : List UInt8) : Prop where
  c0 : w.cell? ⟨b, o, none⟩ = some v
  c1 : w.cell? ⟨b, o + 1, none⟩ = some (.pointer (some ⟨R, 0, none⟩))
  view : Vw w g v l
  rdr : Rdr w R g u rest
  lt : g < w.heap.size
theorem Lk.kept0 {w w' : World} {b o g R : Nat} {v u : Value} {l rest : List UInt8} (h : Lk w b o g R v u l rest) (G : w.grownBy w' none) : Lk w' b o g R v u l rest :=
  ⟨G.cell h.c0 (by simp), G.cell h.c1 (by simp), h.view.kept0 G h.lt, h.rdr.grown G (by simp) (by simp) h.lt, Nat.lt_of_lt_of_le h.lt G.size⟩
def endOk (l rest : List UInt8) (c : Nat) : Prop := rest = [] ∧ Rot.sumOf l = c
theorem look_plain (b o g R : Nat) (v u : Value) (l rest : List UInt8) (kind c : Nat) (w : World) (h : Lk w b o g R v u l rest) (hk : kind = 0 ∨ kind = 2 ∨ kind = 4) :
    Calls Tryz.prog 52 #[.pointer (some ⟨b, o, none⟩), .int .i64 kind, .int .u32 c] w fun e w' => ((e = .returned (.tuple #[]) ∧ endOk l rest c) ∨ (e = .panicked (gu 4) ∧ ¬ endOk l rest c)) ∧ w' = w := by
  have c0 := h.c0
  have c1 := h.c1
  have hsum := sum_piece g v l w h.view
  have k1 : ((kind : Int) == 1) = false := by simp; omega
  have k3 : ((kind : Int) == 3) = false := by simp; omega
  cases hr : rest with
  | cons x rs =>
    have hcon := end_no R g u rest w h.rdr (by rw [hr]; simp)
    have HN : Hid (¬ endOk l (x :: rs) c) := fun h => by cases h.1
    clear h hsum hk hr
    go_enter Tryz.func52, Tryz.ntmps52
    go_wp2_with fail
    refine hcon.mono ?_
    rintro e w1 ⟨rfl, rfl⟩
    clear hcon
    go_wp2_with fail
    exact ⟨rfl, Or.inr ⟨rfl, unhide HN⟩, rfl⟩
  | nil =>
    have hcon := end_yes R g u w (by have := h.rdr; rw [hr] at this; exact this)
    by_cases hs : Rot.sumOf l = c
    · have hb : ((Rot.sumOf l : Int) == (c : Int)) = true := by simp; omega
      have HY : Hid (endOk l [] c) := ⟨rfl, hs⟩
      clear h hk hr hs
      go_enter Tryz.func52, Tryz.ntmps52
      go_wp2_with fail
      refine hcon.mono ?_
      rintro e w1 ⟨rfl, hw1⟩
      subst hw1
      go_wp2_with fail
      refine hsum.mono ?_
      rintro e w2 ⟨rfl, hw2⟩
      subst hw2
      go_wp2_with fail
      refine (must_yes _).mono ?_
      rintro e w3 ⟨rfl, hw3⟩
      subst hw3
      go_wp2_with fail
      go_end0
      exact ⟨Or.inl ⟨rfl, unhide HY⟩, rfl⟩
    · have hb : ((Rot.sumOf l : Int) == (c : Int)) = false := by simp; omega
      have HN : Hid (¬ endOk l [] c) := fun h => hs h.2
      clear h hk hr hs
      go_enter Tryz.func52, Tryz.ntmps52
      go_wp2_with fail
      refine hcon.mono ?_
      rintro e w1 ⟨rfl, hw1⟩
      subst hw1
      go_wp2_with fail
      refine hsum.mono ?_
      rintro e w2 ⟨rfl, hw2⟩
      subst hw2
      go_wp2_with fail
      refine (must_no _).mono ?_
      rintro e w3 ⟨rfl, hw3⟩
      subst hw3
      go_wp2_with fail
      exact ⟨rfl, Or.inr ⟨rfl, unhide HN⟩, rfl⟩
/-- The end of a look, in whatever memory it comes to. -/
theorem look_end {b o g R : Nat} {v u : Value} {l rest : List UInt8} {w : World} (h : Lk w b o g R v u l rest) : (rest = [] → Calls Tryz.prog 53 #[.pointer (some ⟨R, 0, none⟩)] w fun e w' => e = .returned (.tuple #[]) ∧ w' = w) ∧ (rest ≠ [] → Calls Tryz.prog 53 #[.pointer (some ⟨R, 0, none⟩)] w fun e w' => e = .panicked (gu 4) ∧ w' = w) ∧ Calls Tryz.prog 63 #[v] w fun e w' => e = .returned (.int .u32 (Rot.sumOf l)) ∧ w' = w :=
  ⟨fun hr => end_yes R g u w (by have := h.rdr; rw [hr] at this; exact this), fun hr => end_no R g u rest w h.rdr (List.length_pos_iff.2 hr), sum_piece g v l w h.view⟩
theorem look_marks (b o g R : Nat) (v u : Value) (l rest : List UInt8) (c cnt Bk cc : Nat) (p a : Nat → Value) (P : Nat → List UInt8) (D : Nat → List Nat) (n : Nat) (w : World) (h : Lk w b o g R v u l rest) (hS : Sv w b o cnt Bk cc p a P D n) (hn : n ≤ 300) (hc : cnt ≤ 8) :
    Calls Tryz.prog 52 #[.pointer (some ⟨b, o, none⟩), .int .i64 3, .int .u32 c] w fun e w' => ((e = .returned (.tuple #[]) ∧ bitsOk P D n cnt ∧ endOk l rest c) ∨ (e = .panicked (gu 4) ∧ ¬ (bitsOk P D n cnt ∧ endOk l rest c))) ∧ w.grownBy w' none := by
  have hcon := lookAtBits_any b o cnt Bk cc p a P D n w hS hn hc
  have HL := hide h
  clear h hS
  go_enter Tryz.func52, Tryz.ntmps52
  go_wp2_with fail
  refine hcon.mono ?_
  rintro e w1 ⟨(⟨rfl, hok⟩ | ⟨rfl, hno⟩), g1⟩
  case inr =>
    have HN : Hid (¬ (bitsOk P D n cnt ∧ endOk l rest c)) := fun h => hno h.1
    have HG := hide g1
    clear hcon hno g1
    go_wp2_with fail
    exact ⟨rfl, Or.inr ⟨rfl, unhide HN⟩, unhide HG⟩
  have hL := (unhide HL).kept0 g1
  have c0 := hL.c0
  have c1 := hL.c1
  obtain ⟨hy, hx, hsum⟩ := look_end hL
  have HG := hide g1
  have HOK := hide hok
  clear hcon hok g1 hL HL
  by_cases hr : rest = []
  case neg =>
    have hx := hx hr
    have HN : Hid (¬ (bitsOk P D n cnt ∧ endOk l rest c)) := fun h => hr h.2.1
    clear hy hsum hr
    go_wp2_with fail
    refine hx.mono ?_
    rintro e w2 ⟨rfl, rfl⟩
    go_wp2_with fail
    exact ⟨rfl, Or.inr ⟨rfl, unhide HN⟩, unhide HG⟩
  have hy := hy hr
  by_cases hs : Rot.sumOf l = c
  · have hb : ((Rot.sumOf l : Int) == (c : Int)) = true := by simp; omega
    have HY : Hid (bitsOk P D n cnt ∧ endOk l rest c) := ⟨unhide HOK, hr, hs⟩
    clear hx hr hs
    go_wp2_with fail
    refine hy.mono ?_
    rintro e w2 ⟨rfl, hw2⟩
    subst hw2
    go_wp2_with fail
    refine hsum.mono ?_
    rintro e w3 ⟨rfl, hw3⟩
    subst hw3
    go_wp2_with fail
    refine (must_yes _).mono ?_
    rintro e w4 ⟨rfl, hw4⟩
    subst hw4
    go_wp2_with fail
    go_end0
    exact ⟨Or.inl ⟨rfl, unhide HY⟩, unhide HG⟩
  · have hb : ((Rot.sumOf l : Int) == (c : Int)) = false := by simp; omega
    have HN : Hid (¬ (bitsOk P D n cnt ∧ endOk l rest c)) := fun h => hs h.2.2
    clear hx hr hs
    go_wp2_with fail
    refine hy.mono ?_
    rintro e w2 ⟨rfl, hw2⟩
    subst hw2
    go_wp2_with fail
    refine hsum.mono ?_
    rintro e w3 ⟨rfl, hw3⟩
    subst hw3
    go_wp2_with fail
    refine (must_no _).mono ?_
    rintro e w4 ⟨rfl, hw4⟩
    subst hw4
    go_wp2_with fail
    exact ⟨rfl, Or.inr ⟨rfl, unhide HN⟩, unhide HG⟩
theorem look_tree (b o g R : Nat) (v u : Value) (l rest : List UInt8) (c cnt Bk cc : Nat) (p a : Nat → Value) (P : Nat → List UInt8) (D : Nat → List Nat) (n : Nat) (N : Value) (Z : List Nat) (w : World) (h : Lk w b o g R v u l rest) (hS : Sv w b o cnt Bk cc p a P D n) (h2 : w.cell? ⟨b, o + 2, none⟩ = some N) (hN : Us w 0 N Z) (hZ : Z.length = cnt) (hZb : ∀ z ∈ Z, z < 65536) (hn : n ≤ 300) (hc : cnt ≤ 8) :
    Calls Tryz.prog 52 #[.pointer (some ⟨b, o, none⟩), .int .i64 1, .int .u32 c] w fun e w' => ((e = .returned (.tuple #[]) ∧ zerosOk Z P n cnt ∧ bitsOk P D n cnt ∧ endOk l rest c) ∨ (e = .panicked (gu 4) ∧ ¬ (zerosOk Z P n cnt ∧ bitsOk P D n cnt ∧ endOk l rest c))) ∧ w.grownBy w' none := by
  have hcz := lookAtZeros_any b o cnt Bk cc p a P D n N Z w hS h2 hN hZ hZb hn hc
  have HL := hide h
  have HS := hide hS
  clear h hS h2 hN hZb
  go_enter Tryz.func52, Tryz.ntmps52
  go_wp2_with fail
  refine hcz.mono ?_
  rintro e w0 ⟨(⟨rfl, hok⟩ | ⟨rfl, hno⟩), j, rfl⟩
  case inr =>
    have HN : Hid (¬ (zerosOk Z P n cnt ∧ bitsOk P D n cnt ∧ endOk l rest c)) := fun h => hno h.1
    clear hcz hno
    go_wp2_with fail
    exact ⟨rfl, Or.inr ⟨rfl, unhide HN⟩, grown_drewN (World.grownBy.refl _ _) _⟩
  have G0 : w.grownBy (w.drewN j) none := grown_drewN (World.grownBy.refl _ _) _
  have hcon := lookAtBits_any b o cnt Bk cc p a P D n (w.drewN j) ((unhide HS).drewN j) hn hc
  have HZO := hide hok
  clear hcz hok
  go_wp2_with fail
  refine hcon.mono ?_
  rintro e w1 ⟨(⟨rfl, hok⟩ | ⟨rfl, hno⟩), g1⟩
  case inr =>
    have HN : Hid (¬ (zerosOk Z P n cnt ∧ bitsOk P D n cnt ∧ endOk l rest c)) := fun h => hno h.2.1
    have HG := hide (grown_trans G0 g1 (Or.inl rfl))
    clear hcon hno g1
    go_wp2_with fail
    exact ⟨rfl, Or.inr ⟨rfl, unhide HN⟩, unhide HG⟩
  have HG := hide (grown_trans G0 g1 (Or.inl rfl))
  have hL := (unhide HL).kept0 (unhide HG)
  have c0 := hL.c0
  have c1 := hL.c1
  obtain ⟨hy, hx, hsum⟩ := look_end hL
  have HOK := hide hok
  clear hcon hok g1 hL HL G0
  by_cases hr : rest = []
  case neg =>
    have hx := hx hr
    have HN : Hid (¬ (zerosOk Z P n cnt ∧ bitsOk P D n cnt ∧ endOk l rest c)) := fun h => hr h.2.2.1
    clear hy hsum hr
    go_wp2_with fail
    refine hx.mono ?_
    rintro e w2 ⟨rfl, rfl⟩
    go_wp2_with fail
    exact ⟨rfl, Or.inr ⟨rfl, unhide HN⟩, unhide HG⟩
  have hy := hy hr
  by_cases hs : Rot.sumOf l = c
  · have hb : ((Rot.sumOf l : Int) == (c : Int)) = true := by simp; omega
    have HY : Hid (zerosOk Z P n cnt ∧ bitsOk P D n cnt ∧ endOk l rest c) := ⟨unhide HZO, unhide HOK, hr, hs⟩
    clear hx hr hs
    go_wp2_with fail
    refine hy.mono ?_
    rintro e w2 ⟨rfl, hw2⟩
    subst hw2
    go_wp2_with fail
    refine hsum.mono ?_
    rintro e w3 ⟨rfl, hw3⟩
    subst hw3
    go_wp2_with fail
    refine (must_yes _).mono ?_
    rintro e w4 ⟨rfl, hw4⟩
    subst hw4
    go_wp2_with fail
    go_end0
    exact ⟨Or.inl ⟨rfl, unhide HY⟩, unhide HG⟩
  · have hb : ((Rot.sumOf l : Int) == (c : Int)) = false := by simp; omega
    have HN : Hid (¬ (zerosOk Z P n cnt ∧ bitsOk P D n cnt ∧ endOk l rest c)) := fun h => hs h.2.2.2
    clear hx hr hs
    go_wp2_with fail
    refine hy.mono ?_
    rintro e w2 ⟨rfl, hw2⟩
    subst hw2
    go_wp2_with fail
    refine hsum.mono ?_
    rintro e w3 ⟨rfl, hw3⟩
    subst hw3
    go_wp2_with fail
    refine (must_no _).mono ?_
    rintro e w4 ⟨rfl, hw4⟩
    subst hw4
    go_wp2_with fail
    exact ⟨rfl, Or.inr ⟨rfl, unhide HN⟩, unhide HG⟩
end Go.Proofs.YthlincikgdblfaaGreat

namespace Go.Proofs.YthlincikgdblfaaGreat
open Go.RowKit
set_option linter.unusedVariables false

/-- The cells of a file that is being taken apart. -/
structure Fc (w : World) (fb : Nat) (C : Nat → Value) : Prop where
  cells : ∀ j, j < 32 → w.cell? ⟨fb, j, none⟩ = some (C j)
  free : ∀ j, w.frozen? ⟨fb, j, none⟩ = false
def upd (C : Nat → Value) (j : Nat) (x : Value) : Nat → Value := fun i => if i = j then x else C i
theorem Fc.grown {w w' : World} {fb : Nat} {C : Nat → Value} {r : Option Nat} (h : Fc w fb C) (G : w.grownBy w' r) (hr : r ≠ some fb) : Fc w' fb C := by
  have hlt : fb < w.heap.size := World.block_lt_of_cell? w ⟨fb, 0, none⟩ (h.cells 0 (by decide))
  exact ⟨fun j hj => (grown_cell G hlt hr j).trans (h.cells j hj), fun j => (grown_frozen G hlt hr j).trans (h.free j)⟩
theorem Fc.set {w : World} {fb : Nat} {C : Nat → Value} (h : Fc w fb C) (j : Nat) (hj : j < 32) (x : Value) : Fc (w.setCell ⟨fb, j, none⟩ x) fb (upd C j x) := by
  refine ⟨fun i hi => ?_, fun i => (World.frozen?_setCell _ _ _ _).trans (h.free i)⟩
  unfold upd
  by_cases e : i = j
  · subst e
    rw [if_pos rfl]
    exact World.cell?_setCell_same _ _ _ (h.cells i hi)
  · rw [if_neg e, World.cell?_setCell_other _ _ _ _ (fun e2 => e (by injection e2 with _ e3; exact e3.symm))]
    exact h.cells i hi
theorem Fc.drewN {w : World} {fb : Nat} {C : Nat → Value} (h : Fc w fb C) (k : Nat) : Fc (w.drewN k) fb C := ⟨h.cells, h.free⟩
/-- Does the head say so? -/
def headOk (s : List UInt8) : Prop := ∃ a4 a5 a6 a8 a9 a10 a11 : UInt8, ∃ rest, s = 82 :: 84 :: 88 :: 49 :: a4 :: a5 :: a6 :: 5 :: a8 :: a9 :: a10 :: a11 :: rest ∧ a4.toNat + 256 * a5.toNat ≤ 250 ∧ isRate (a6.toNat : Int) = true ∧ a8.toNat + 256 * a9.toNat + 65536 * a10.toNat + 16777216 * a11.toNat = s.length
/-- What a good head leaves. -/
structure HeadOut (w w' : World) (fb R g B : Nat) (C : Nat → Value) (s : List UInt8) : Prop where
  ok : headOk s
  file : Fc w' fb (upd (upd C 0 (.int .i64 (Rot.numAt s 2 : Nat))) 1 (.int .i64 (((s[6]?).getD 0).toNat : Nat)))
  rdr : ∃ u, Rdr w' R g u (s.drop 12)
  below : Below B w w'
theorem below_set {w : World} {B b j : Nat} {x : Value} (hb : B ≤ b) : Below B w (w.setCell ⟨b, j, none⟩ x) := (Below.refl B w).setCell hb x
set_option maxRecDepth 100000 in
set_option maxHeartbeats 2000000 in
theorem takeHead_any (fb R g B : Nat) (u : Value) (s : List UInt8) (C : Nat → Value) (w : World) (hF : Fc w fb C) (hR : Rdr w R g u s) (hne : R ≠ fb) (hgf : g ≠ fb) (hBf : B ≤ fb) (hBR : B ≤ R) (hg : g < B) (hB : B ≤ w.heap.size) (hs : s.length ≤ 4000) :
    Calls Tryz.prog 48 #[.pointer (some ⟨fb, 0, none⟩), .pointer (some ⟨R, 0, none⟩), .int .i64 s.length] w fun e w' => (e = .returned (.tuple #[]) ∧ HeadOut w w' fb R g B C s) ∨ (e = .panicked (gu 4) ∧ ¬ headOk s ∧ Below B w w') := by
  by_cases h4 : 4 ≤ s.length
  case neg =>
    have hcon := bytes_no R g u s 4 w hR (by omega)
    have HN : Hid (¬ headOk s) := by
      rintro ⟨_, _, _, _, _, _, _, rest, h, _⟩
      rw [h] at h4
      simp at h4
    clear hF hR
    go_enter Tryz.func48, Tryz.ntmps48
    go_wp2_with fail
    refine hcon.mono ?_
    rintro e w1 ⟨rfl, rfl⟩
    clear hcon
    go_wp2_with fail
    exact ⟨rfl, Or.inr ⟨rfl, unhide HN, Below.refl _ _⟩⟩
  obtain ⟨a0, a1, a2, a3, s1, hs1⟩ : ∃ a0 a1 a2 a3 s1, s = a0 :: a1 :: a2 :: a3 :: s1 := by
    match s, h4 with
    | a0 :: a1 :: a2 :: a3 :: s1, _ => exact ⟨a0, a1, a2, a3, s1, rfl⟩
  have ht4 : s.take 4 = [a0, a1, a2, a3] := by rw [hs1]; rfl
  have hd4 : s.drop 4 = s1 := by rw [hs1]; rfl
  have hcon := bytes_yes R g u s 4 w hR h4
  have HR := hide hR
  have HF := hide hF
  clear hF hR
  go_enter Tryz.func48, Tryz.ntmps48
  go_wp2_with fail
  refine hcon.mono ?_
  rintro e w1 ⟨x, rfl, hx, hadv⟩
  clear hcon
  rw [ht4] at hx
  rw [hd4] at hadv
  have hr1 := Adv.rdr (unhide HR) hadv
  have hb1 : Below B w w1 := by obtain ⟨v', _, rfl⟩ := hadv; exact below_set hBR
  have hf1 := (unhide HF).grown (Adv.grown hadv) (by intro e; injection e with e; exact hne e)
  have hx1 := hx.grown (Adv.grown hadv) (by intro e; injection e with e; exact (unhide HR).ne e) (by omega)
  obtain ⟨off, cap, hxe, _, hcap, hxc⟩ := hx1
  subst hxe
  have hcv : (convert 45 9 (.slice (some ⟨g, off, none⟩) 4 cap)).run Tryz.prog w1 = .ok (.string ⟨#[a0, a1, a2, a3]⟩) w1 :=
    run_convert_bytes_back (P := Tryz.prog) w1 45 9 5 ⟨g, off, none⟩ cap [a0, a1, a2, a3] Tryz.underlying45 Tryz.underlying5 Tryz.underlying9 (fun j hj => by rw [addr_add2]; exact hxc j hj)
  have HR1 := hide hr1
  have HB1 := hide hb1
  have HF1 := hide hf1
  have HS := hide hs1
  clear hr1 hb1 hf1 hx hxc hadv ht4 hd4 hs1 HR HF
  by_cases hsg : a0 = 82 ∧ a1 = 84 ∧ a2 = 88 ∧ a3 = 49
  case neg =>
    have HN : Hid (¬ headOk s) := by
      rintro ⟨_, _, _, _, _, _, _, rest, h, _⟩
      rw [unhide HS] at h
      injection h with h0 h
      injection h with h1 h
      injection h with h2 h
      injection h with h3 h
      exact hsg ⟨h0, h1, h2, h3⟩
    have hse : (a0 == 82 && (a1 == 84 && (a2 == 88 && a3 == 49))) = false := by
      rw [Bool.eq_false_iff]
      intro e
      apply hsg
      simpa using e
    clear hsg
    go_wp2_with fail
    refine (must_no _).mono ?_
    rintro e w2 ⟨rfl, rfl⟩
    go_wp2_with fail
    exact ⟨rfl, Or.inr ⟨rfl, unhide HN, unhide HB1⟩⟩
  obtain ⟨rfl, rfl, rfl, rfl⟩ := hsg
  go_wp2_with fail
  refine (must_yes _).mono ?_
  rintro e w2 ⟨rfl, hw2⟩
  subst hw2
  clear hcv
  obtain ⟨u1, hu1⟩ := unhide HR1
  by_cases hl2 : 2 ≤ s1.length
  case neg =>
    have hcon := num16_no R g u1 s1 w2 hu1 (by omega)
    have HN : Hid (¬ headOk s) := by
      rintro ⟨_, _, _, _, _, _, _, rest, h, _⟩
      rw [unhide HS] at h
      simp only [List.cons.injEq, true_and] at h
      rw [h] at hl2
      simp at hl2
    clear hu1
    go_wp2_with fail
    refine hcon.mono ?_
    rintro e w3 ⟨rfl, rfl⟩
    go_wp2_with fail
    exact ⟨rfl, Or.inr ⟨rfl, unhide HN, unhide HB1⟩⟩
  obtain ⟨a4, a5, s2, hs2⟩ : ∃ a4 a5 s2, s1 = a4 :: a5 :: s2 := by
    match s1, hl2 with
    | a4 :: a5 :: s2, _ => exact ⟨a4, a5, s2, rfl⟩
  subst hs2
  have hcon := num16_yes R g u1 a4 a5 s2 w2 hu1
  have hnb : a4.toNat + 256 * a5.toNat < 65536 := by have h1 : a4.toNat < 256 := a4.toNat_lt; have h2 : a5.toNat < 256 := a5.toNat_lt; omega
  have HNA : Hid (a4.toNat + 256 * a5.toNat = Rot.numAt s 2) := by unfold Rot.numAt; rw [unhide HS]; exact rfl
  have HU1 := hide hu1
  obtain ⟨n, hn⟩ : ∃ n : Nat, n = a4.toNat + 256 * a5.toNat := ⟨_, rfl⟩
  rw [← hn] at hcon hnb HNA
  have HNE := hide hn
  clear hu1 HR1 hl2 hn
  go_wp2_with fail
  refine hcon.mono ?_
  rintro e w3 ⟨rfl, hadv⟩
  clear hcon
  have hf3 := (unhide HF1).grown hadv.grown (by intro e; injection e with e; exact hne e)
  have hc0 := hf3.cells 0 (by decide)
  have hz0 := hf3.free 0
  have HR3 := hide (hadv.rdr (unhide HU1))
  have HB3 : Hid (Below B w w3) := (unhide HB1).trans (by obtain ⟨v', _, rfl⟩ := hadv; exact below_set hBR)
  have HF3 := hide (hf3.set 0 (by decide) (.int .i64 n))
  clear hadv hf3 HU1 HF1 HB1
  go_wp2_with fail
  have hg3 : g < w3.heap.size := Nat.lt_of_lt_of_le (Nat.lt_of_lt_of_le hg hB) (unhide HB3).size
  have hr4 : ∃ u, Rdr (w3.setCell ⟨fb, 0, none⟩ (.int .i64 n)) R g u s2 := by
    obtain ⟨u3, hu3⟩ := unhide HR3
    exact ⟨u3, hu3.grown (grown_setCell _ _ _ _) (by intro e; injection e with e; exact hne e.symm) (by intro e; injection e with e; exact hgf e.symm) hg3⟩
  have HB4 : Hid (Below B w (w3.setCell ⟨fb, 0, none⟩ (.int .i64 n))) := (unhide HB3).trans (below_set hBf)
  generalize w3.setCell ⟨fb, 0, none⟩ (.int .i64 n) = w4 at HF3 hr4 HB4 ⊢
  clear hc0 hz0 HR3 HB3 hg3
  obtain ⟨u4, hu4⟩ := hr4
  cases s2 with
  | nil =>
    have hcon := num8_no R g u4 [] w4 hu4 (by simp)
    have HN : Hid (¬ headOk s) := by
      rintro ⟨_, _, _, _, _, _, _, rest, h, _⟩
      rw [unhide HS] at h
      simp at h
    clear hu4
    refine hcon.mono ?_
    rintro e w5 ⟨rfl, rfl⟩
    go_wp2_with fail
    exact ⟨rfl, Or.inr ⟨rfl, unhide HN, unhide HB4⟩⟩
  | cons a6 s3 =>
  have hcon := num8_yes R g u4 a6 s3 w4 hu4
  have HRA : Hid (a6.toNat = ((s[6]?).getD 0).toNat) := by rw [unhide HS]; exact rfl
  have hrb : a6.toNat < 256 := a6.toNat_lt
  have HU4 := hide hu4
  obtain ⟨r, hr⟩ : ∃ r : Nat, r = a6.toNat := ⟨_, rfl⟩
  rw [← hr] at hcon hrb HRA
  have HRE := hide hr
  clear hu4 hr
  refine hcon.mono ?_
  rintro e w5 ⟨rfl, hadv⟩
  clear hcon
  have hf5 := (unhide HF3).grown hadv.grown (by intro e; injection e with e; exact hne e)
  have hc1 := hf5.cells 1 (by decide)
  have hz1 := hf5.free 1
  have HR5 := hide (hadv.rdr (unhide HU4))
  have HB5 : Hid (Below B w w5) := (unhide HB4).trans (by obtain ⟨v', _, rfl⟩ := hadv; exact below_set hBR)
  have hf6 := hf5.set 1 (by decide) (.int .i64 r)
  have HF6 := hide hf6
  have hg5 : g < w5.heap.size := Nat.lt_of_lt_of_le (Nat.lt_of_lt_of_le hg hB) (unhide HB5).size
  have hr6 : ∃ u, Rdr (w5.setCell ⟨fb, 1, none⟩ (.int .i64 r)) R g u s3 := by
    obtain ⟨u3, hu3⟩ := unhide HR5
    exact ⟨u3, hu3.grown (grown_setCell _ _ _ _) (by intro e; injection e with e; exact hne e.symm) (by intro e; injection e with e; exact hgf e.symm) hg5⟩
  have HB6 : Hid (Below B w (w5.setCell ⟨fb, 1, none⟩ (.int .i64 r))) := (unhide HB5).trans (below_set hBf)
  have d0 : w5.cell? ⟨fb, 0, none⟩ = some (.int .i64 n) := hf5.cells 0 (by decide)
  have HR6 := hide hr6
  clear hadv hf5 hf6 HU4 HF3 HB4 HR5 HB5 hr6
  have hirc := isRate_any (r : Int)
  by_cases hnr : n ≤ 250 ∧ isRate (r : Int) = true
  case neg =>
    have HN : Hid (¬ headOk s) := by
      rintro ⟨_, _, _, _, _, _, _, rest, h, h1, h2, _⟩
      rw [unhide HS] at h
      simp only [List.cons.injEq, true_and] at h
      obtain ⟨rfl, rfl, rfl, h⟩ := h
      exact hnr ⟨by rw [unhide HNE]; exact h1, by rw [unhide HRE]; exact h2⟩
    by_cases hn250 : n ≤ 250
    · have hir : isRate (r : Int) = false := by
        cases e : isRate (r : Int) with
        | false => rfl
        | true => exact absurd ⟨hn250, e⟩ hnr
      rw [hir] at hirc
      have hd : decide (n ≤ 250) = true := by simp; omega
      clear hnr hir
      go_wp2_with fail
      refine (hirc _).mono ?_
      rintro e w7 ⟨rfl, hw7⟩
      subst hw7
      go_wp2_with fail
      refine (must_no _).mono ?_
      rintro e w8 ⟨rfl, rfl⟩
      go_wp2_with fail
      exact ⟨rfl, Or.inr ⟨rfl, unhide HN, unhide HB6⟩⟩
    · have hd : decide (n ≤ 250) = false := by simp; omega
      clear hnr
      go_wp2_with fail
      refine (must_no _).mono ?_
      rintro e w8 ⟨rfl, rfl⟩
      go_wp2_with fail
      exact ⟨rfl, Or.inr ⟨rfl, unhide HN, unhide HB6⟩⟩
  obtain ⟨hn250, hir⟩ := hnr
  rw [hir] at hirc
  have HIR := hide hir
  have hd : decide (n ≤ 250) = true := by simp; omega
  clear hir
  go_wp2_with fail
  refine (hirc _).mono ?_
  rintro e w7 ⟨rfl, hw7⟩
  have HF7 : Hid (Fc w7 fb (upd (upd C 0 (.int .i64 n)) 1 (.int .i64 r))) := by rw [hw7]; exact unhide HF6
  have HR7 : Hid (∃ u, Rdr w7 R g u s3) := by rw [hw7]; exact unhide HR6
  have HB7 : Hid (Below B w w7) := by rw [hw7]; exact unhide HB6
  have t0 : w7.cell? ⟨fb, 0, none⟩ = some (.int .i64 n) := (unhide HF7).cells 0 (by decide)
  have t1 : w7.cell? ⟨fb, 1, none⟩ = some (.int .i64 r) := (unhide HF7).cells 1 (by decide)
  clear hw7 HF6 HR6 HB6 d0 hc1 hz1 hirc hg5
  go_wp2_with fail
  refine (must_yes _).mono ?_
  rintro e w8 ⟨rfl, hw8⟩
  subst hw8
  obtain ⟨u7, hu7⟩ := unhide HR7
  cases s3 with
  | nil =>
    have hcon := num8_no R g u7 [] _ hu7 (by simp)
    have HN : Hid (¬ headOk s) := by
      rintro ⟨_, _, _, _, _, _, _, rest, h, _⟩
      rw [unhide HS] at h
      simp at h
    clear hu7
    go_wp2_with fail
    refine hcon.mono ?_
    rintro e w9 ⟨rfl, rfl⟩
    go_wp2_with fail
    exact ⟨rfl, Or.inr ⟨rfl, unhide HN, unhide HB7⟩⟩
  | cons a7 s4 =>
  have hcon := num8_yes R g u7 a7 s4 _ hu7
  have HU7 := hide hu7
  clear hu7
  go_wp2_with fail
  refine hcon.mono ?_
  rintro e w9 ⟨rfl, hadv⟩
  clear hcon
  have HF9 := hide ((unhide HF7).grown hadv.grown (by intro e; injection e with e; exact hne e))
  have HR9 := hide (hadv.rdr (unhide HU7))
  have HB9 : Hid (Below B w w9) := (unhide HB7).trans (by obtain ⟨v', _, rfl⟩ := hadv; exact below_set hBR)
  clear hadv HU7 HF7 HR7 HB7 t0 t1
  by_cases ha7 : a7 = 5
  case neg =>
    have hb : ((a7.toNat : Int) == 5) = false := by
      simp
      intro e
      exact ha7 (UInt8.toNat_inj.1 (by have : (5 : UInt8).toNat = 5 := rfl; omega))
    have HN : Hid (¬ headOk s) := by
      rintro ⟨_, _, _, _, _, _, _, rest, h, _⟩
      rw [unhide HS] at h
      simp only [List.cons.injEq, true_and] at h
      exact ha7 h.2.2.2.1
    clear ha7
    go_wp2_with fail
    refine (must_no _).mono ?_
    rintro e w10 ⟨rfl, rfl⟩
    go_wp2_with fail
    exact ⟨rfl, Or.inr ⟨rfl, unhide HN, unhide HB9⟩⟩
  subst ha7
  have hb : (((5 : UInt8).toNat : Int) == 5) = true := rfl
  go_wp2_with fail
  refine (must_yes _).mono ?_
  rintro e w10 ⟨rfl, hw10⟩
  subst hw10
  obtain ⟨u9, hu9⟩ := unhide HR9
  by_cases hl4 : 4 ≤ s4.length
  case neg =>
    have hcon := num32_no R g u9 s4 _ hu9 (by omega)
    have HN : Hid (¬ headOk s) := by
      rintro ⟨_, _, _, _, _, _, _, rest, h, _⟩
      rw [unhide HS] at h
      simp only [List.cons.injEq, true_and] at h
      rw [h.2.2.2] at hl4
      simp at hl4
    clear hu9
    go_wp2_with fail
    refine hcon.mono ?_
    rintro e w11 ⟨rfl, rfl⟩
    go_wp2_with fail
    exact ⟨rfl, Or.inr ⟨rfl, unhide HN, unhide HB9⟩⟩
  obtain ⟨a8, a9, a10, a11, s5, hs5⟩ : ∃ a8 a9 a10 a11 s5, s4 = a8 :: a9 :: a10 :: a11 :: s5 := by
    match s4, hl4 with
    | a8 :: a9 :: a10 :: a11 :: s5, _ => exact ⟨a8, a9, a10, a11, s5, rfl⟩
  subst hs5
  have hcon := num32_yes R g u9 a8 a9 a10 a11 s5 _ hu9
  have HU9 := hide hu9
  have hzb : a8.toNat + 256 * a9.toNat + 65536 * a10.toNat + 16777216 * a11.toNat < 4294967296 := by
    have h1 : a8.toNat < 256 := a8.toNat_lt
    have h2 : a9.toNat < 256 := a9.toNat_lt
    have h3 : a10.toNat < 256 := a10.toNat_lt
    have h5 : a11.toNat < 256 := a11.toNat_lt
    omega
  obtain ⟨z, hz⟩ : ∃ z : Nat, z = a8.toNat + 256 * a9.toNat + 65536 * a10.toNat + 16777216 * a11.toNat := ⟨_, rfl⟩
  rw [← hz] at hcon hzb
  have HZ := hide hz
  clear hu9 hz hl4
  go_wp2_with fail
  refine hcon.mono ?_
  rintro e w11 ⟨rfl, hadv⟩
  clear hcon
  have HF11 := hide ((unhide HF9).grown hadv.grown (by intro e; injection e with e; exact hne e))
  have HR11 := hide (hadv.rdr (unhide HU9))
  have HB11 : Hid (Below B w w11) := (unhide HB9).trans (by obtain ⟨v', _, rfl⟩ := hadv; exact below_set hBR)
  clear hadv HU9 HF9 HR9 HB9
  by_cases hzs : z = s.length
  · have hb2 : ((z : Int) == (s.length : Int)) = true := by simp [hzs]
    have HOK : Hid (headOk s) := ⟨a4, a5, a6, a8, a9, a10, a11, s5, unhide HS, by rw [← unhide HNE]; exact hn250, by rw [← unhide HRE]; exact unhide HIR, by rw [← unhide HZ]; exact hzs⟩
    have HDR : Hid (s.drop 12 = s5) := by rw [unhide HS]; exact rfl
    clear hzs
    go_wp2_with fail
    refine (must_yes _).mono ?_
    rintro e w12 ⟨rfl, hw12⟩
    subst hw12
    go_wp2_with fail
    go_end0
    refine Or.inl ⟨rfl, unhide HOK, ?_, ?_, unhide HB11⟩
    · rw [← unhide HNA, ← unhide HRA]
      exact unhide HF11
    · rw [unhide HDR]
      exact unhide HR11
  · have hb2 : ((z : Int) == (s.length : Int)) = false := by simp; omega
    have HN : Hid (¬ headOk s) := by
      rintro ⟨_, _, _, _, _, _, _, rest, h, _, _, h3⟩
      rw [unhide HS] at h
      simp only [List.cons.injEq, true_and] at h
      obtain ⟨rfl, rfl, rfl, rfl, rfl, rfl, rfl, h⟩ := h
      exact hzs (by rw [unhide HZ]; exact h3)
    clear hzs
    go_wp2_with fail
    refine (must_no _).mono ?_
    rintro e w12 ⟨rfl, hw12⟩
    subst hw12
    go_wp2_with fail
    exact ⟨rfl, Or.inr ⟨rfl, unhide HN, unhide HB11⟩⟩
end Go.Proofs.YthlincikgdblfaaGreat

namespace Go.Proofs.YthlincikgdblfaaGreat
open Go.RowKit
set_option linter.unusedVariables false

def byteAt (t : List UInt8) (i : Nat) : Nat := ((t[i]?).getD 0).toNat
def szAt (t : List UInt8) (k : Nat) : Nat := byteAt t (6 * k) + 256 * byteAt t (6 * k + 1)
def smAt (t : List UInt8) (k : Nat) : Nat := byteAt t (6 * k + 2) + 256 * byteAt t (6 * k + 3) + 65536 * byteAt t (6 * k + 4) + 16777216 * byteAt t (6 * k + 5)
theorem byteAt_lt (t : List UInt8) (i : Nat) : byteAt t i < 256 := ((t[i]?).getD 0).toNat_lt
theorem szAt_lt (t : List UInt8) (k : Nat) : szAt t k < 65536 := by
  have h1 := byteAt_lt t (6 * k)
  have h2 := byteAt_lt t (6 * k + 1)
  unfold szAt
  omega
theorem smAt_lt (t : List UInt8) (k : Nat) : smAt t k < 4294967296 := by
  have h1 := byteAt_lt t (6 * k + 2)
  have h2 := byteAt_lt t (6 * k + 3)
  have h3 := byteAt_lt t (6 * k + 4)
  have h4 := byteAt_lt t (6 * k + 5)
  unfold smAt
  omega
def tabC (C : Nat → Value) (t : List UInt8) (k : Nat) : Nat → Value := fun j => if 2 ≤ j ∧ j < 2 + k then .int .i64 (szAt t (j - 2) : Nat) else if 7 ≤ j ∧ j < 7 + k then .int .u32 (smAt t (j - 7) : Nat) else C j
theorem tabC_zero (C : Nat → Value) (t : List UInt8) : tabC C t 0 = C := by
  funext j
  unfold tabC
  rw [if_neg (by omega), if_neg (by omega)]
theorem tabC_succ (C : Nat → Value) (t : List UInt8) (k : Nat) (hk : k < 5) : upd (upd (tabC C t k) (2 + k) (.int .i64 (szAt t k : Nat))) (7 + k) (.int .u32 (smAt t k : Nat)) = tabC C t (k + 1) := by
  funext j
  unfold upd tabC
  by_cases h1 : j = 7 + k
  · subst h1
    rw [if_pos rfl, if_neg (by omega), if_pos (by omega), show 7 + k - 7 = k by omega]
  · rw [if_neg h1]
    by_cases h2 : j = 2 + k
    · subst h2
      rw [if_pos rfl, if_pos (by omega), show 2 + k - 2 = k by omega]
    · rw [if_neg h2]
      by_cases h3 : 2 ≤ j ∧ j < 2 + k
      · rw [if_pos h3, if_pos (by omega)]
      · rw [if_neg h3]
        rw [if_neg (show ¬ (2 ≤ j ∧ j < 2 + (k + 1)) by omega)]
        by_cases h4 : 7 ≤ j ∧ j < 7 + k
        · rw [if_pos h4, if_pos (by omega)]
        · rw [if_neg h4, if_neg (by omega)]
theorem row6 {t : List UInt8} {k : Nat} (h : 6 * k + 6 ≤ t.length) : ∃ a b c d e f : UInt8, t.drop (6 * k) = a :: b :: c :: d :: e :: f :: t.drop (6 * (k + 1)) ∧ a.toNat + 256 * b.toNat = szAt t k ∧ c.toNat + 256 * d.toNat + 65536 * e.toNat + 16777216 * f.toNat = smAt t k := by
  refine ⟨t[6 * k]'(by omega), t[6 * k + 1]'(by omega), t[6 * k + 2]'(by omega), t[6 * k + 3]'(by omega), t[6 * k + 4]'(by omega), t[6 * k + 5]'(by omega), ?_, ?_, ?_⟩
  · have e6 : 6 * (k + 1) = 6 * k + 1 + 1 + 1 + 1 + 1 + 1 := by omega
    rw [e6]
    have d0 := List.drop_eq_getElem_cons (l := t) (i := 6 * k) (by omega)
    have d1 := List.drop_eq_getElem_cons (l := t) (i := 6 * k + 1) (by omega)
    have d2 := List.drop_eq_getElem_cons (l := t) (i := 6 * k + 1 + 1) (by omega)
    have d3 := List.drop_eq_getElem_cons (l := t) (i := 6 * k + 1 + 1 + 1) (by omega)
    have d4 := List.drop_eq_getElem_cons (l := t) (i := 6 * k + 1 + 1 + 1 + 1) (by omega)
    have d5 := List.drop_eq_getElem_cons (l := t) (i := 6 * k + 1 + 1 + 1 + 1 + 1) (by omega)
    exact d0.trans (congrArg _ (d1.trans (congrArg _ (d2.trans (congrArg _ (d3.trans (congrArg _ (d4.trans (congrArg _ d5)))))))))
  · unfold szAt byteAt
    rw [List.getElem?_eq_getElem (by omega), List.getElem?_eq_getElem (by omega)]
    rfl
  · unfold smAt byteAt
    rw [List.getElem?_eq_getElem (by omega), List.getElem?_eq_getElem (by omega), List.getElem?_eq_getElem (by omega), List.getElem?_eq_getElem (by omega)]
    rfl
/-- Behind k rows of the table. -/
structure TabAt (w wr : World) (fb R g B : Nat) (C : Nat → Value) (rest : List UInt8) : Prop where
  rdr : ∃ u, Rdr wr R g u rest
  file : Fc wr fb C
  below : Below B w wr
theorem TabAt.drewN {w wr : World} {fb R g B : Nat} {C : Nat → Value} {rest : List UInt8} (h : TabAt w wr fb R g B C rest) (j : Nat) : TabAt w (wr.drewN j) fb R g B C rest := by
  obtain ⟨u, hu⟩ := h.rdr
  exact ⟨⟨u, hu.drewN j⟩, h.file.drewN j, below_drewN (k := j) h.below⟩
theorem TabAt.read {w wr w1 : World} {fb R g B : Nat} {C : Nat → Value} {rest rest' : List UInt8} (h : TabAt w wr fb R g B C rest) (hne : R ≠ fb) (hBR : B ≤ R) (hadv : Adv wr w1 R g rest') : TabAt w w1 fb R g B C rest' := by
  obtain ⟨u, hu⟩ := h.rdr
  refine ⟨hadv.rdr hu, h.file.grown hadv.grown (by intro e; injection e with e; exact hne e), h.below.trans ?_⟩
  obtain ⟨v', _, rfl⟩ := hadv
  exact below_set hBR
theorem TabAt.set {w wr : World} {fb R g B : Nat} {C : Nat → Value} {rest : List UInt8} (h : TabAt w wr fb R g B C rest) (hne : R ≠ fb) (hgf : g ≠ fb) (hBf : B ≤ fb) (hg : g < wr.heap.size) (j : Nat) (hj : j < 32) (x : Value) : TabAt w (wr.setCell ⟨fb, j, none⟩ x) fb R g B (upd C j x) rest := by
  obtain ⟨u, hu⟩ := h.rdr
  exact ⟨⟨u, hu.grown (grown_setCell _ _ _ _) (by intro e; injection e with e; exact hne e.symm) (by intro e; injection e with e; exact hgf e.symm) hg⟩, h.file.set j hj x, h.below.trans (below_set hBf)⟩
set_option maxRecDepth 100000 in
set_option maxHeartbeats 2000000 in
theorem takeTable_any (fb R g B : Nat) (t : List UInt8) (C : Nat → Value) (w : World) (h : TabAt w w fb R g B C t) (hne : R ≠ fb) (hgf : g ≠ fb) (hBf : B ≤ fb) (hBR : B ≤ R) (hg : g < B) (hB : B ≤ w.heap.size) :
    Calls Tryz.prog 49 #[.pointer (some ⟨fb, 0, none⟩), .pointer (some ⟨R, 0, none⟩)] w fun e w' => (e = .returned (.tuple #[]) ∧ 30 ≤ t.length ∧ TabAt w w' fb R g B (tabC C t 5) (t.drop 30)) ∨ (e = .panicked (gu 4) ∧ t.length < 30 ∧ Below B w w') := by
  have HT := hide h
  clear h
  go_enter Tryz.func49, Tryz.ntmps49
  go_wp2_with fail
  go_loopw [5] (fun ix wr => ∃ k : Nat, k ≤ 5 ∧ 6 * k ≤ t.length ∧ ix = .int .i64 k ∧ TabAt w wr fb R g B (tabC C t k) (t.drop (6 * k))) (fun ix _ => 5 - (intOf ix).toNat)
  case atStart => exact ⟨0, by omega, by omega, rfl, by rw [tabC_zero]; exact unhide HT⟩
  case round =>
    obtain ⟨k, hk, hkl, rfl, T⟩ := hrel
    clear HT
    by_cases hlt : k < 5
    · have hgw : g < wr.heap.size := Nat.lt_of_lt_of_le (Nat.lt_of_lt_of_le hg hB) T.below.size
      by_cases hl6 : 6 * k + 6 ≤ t.length
      · obtain ⟨a, b, c, d, e, f, hdr, hsz, hsm⟩ := row6 hl6
        rw [hdr] at T
        have T1 := T.drewN 1
        obtain ⟨u, hu⟩ := T1.rdr
        have hcon := num16_yes R g u a b _ _ hu
        rw [hsz] at hcon
        have hszb := szAt_lt t k
        have hsmb := smAt_lt t k
        have HS := hide (tabC_succ C t k hlt)
        have HT1 := hide T1
        generalize szAt t k = z at hcon hszb HS
        have hzw : IntKind.i64.wrap (z : Int) = (z : Int) := by rw [IntKind.wrap_i64]; omega
        have HSM := hide hsm
        clear T T1 hu hdr hsz hsm
        go_upto_region 3 with fail
        go_cut [] (fun wx => TabAt w wx fb R g B (upd (tabC C t k) (2 + k) (.int .i64 (z : Nat))) (c :: d :: e :: f :: t.drop (6 * (k + 1))))
        case first =>
          go_region_with (first | (go_at_call 77; refine hcon.mono ?_; rintro e w3 ⟨rfl, hadv⟩; have T2 := hide ((unhide HT1).read hne hBR hadv); have x0 := (unhide T2).file.cells (2 + k) (by omega); have x1 := (unhide T2).file.free (2 + k); generalize tabC C t k (2 + k) = old at x0))
          all_goals
            go_wp2_with fail
            go_meet
            try rw [hzw]
            exact (unhide T2).set hne hgf hBf (Nat.lt_of_lt_of_le (Nat.lt_of_lt_of_le hg hB) (unhide T2).below.size) (2 + k) (by omega) _
        case rest =>
          have T1 := hcut.drewN 1
          clear HT1 hcon hcut
          obtain ⟨u, hu⟩ := T1.rdr
          have hcon := num32_yes R g u c d e f _ _ hu
          rw [unhide HSM] at hcon
          generalize smAt t k = z2 at hcon hsmb HS HSM
          have HT1 := hide T1
          clear T1 hu HSM
          go_wp2_with fail
          go_region_with (first | (go_at_call 79; refine hcon.mono ?_; rintro e w3 ⟨rfl, hadv⟩; have T2 := hide ((unhide HT1).read hne hBR hadv); have x0 := (unhide T2).file.cells (7 + k) (by omega); have x1 := (unhide T2).file.free (7 + k); generalize upd (tabC C t k) (2 + k) (.int .i64 (z : Nat)) (7 + k) = old at x0))
          all_goals
            have T3 := (unhide T2).set hne hgf hBf (Nat.lt_of_lt_of_le (Nat.lt_of_lt_of_le hg hB) (unhide T2).below.size) (7 + k) (by omega) (.int .u32 (z2 : Nat))
            rw [unhide HS] at T3
            have HT3 := hide T3
            clear T3 T2 hadv HT1 HS hcon
            go_wp2_with fail
            go_roundw
            case rel => exact ⟨k + 1, by omega, by omega, by go_num, unhide HT3⟩
            case measure => simp [intOf]; omega
      · have T1 := T.drewN 1
        obtain ⟨u, hu⟩ := T1.rdr
        by_cases hl2 : 6 * k + 2 ≤ t.length
        · obtain ⟨a, b, hdr⟩ : ∃ a b, t.drop (6 * k) = a :: b :: t.drop (6 * k + 2) := ⟨t[6 * k]'(by omega), t[6 * k + 1]'(by omega), by rw [List.drop_eq_getElem_cons (by omega), List.drop_eq_getElem_cons (by omega)]⟩
          rw [hdr] at hu T1
          have hcon := num16_yes R g u a b _ _ hu
          have hzb : a.toNat + 256 * b.toNat < 65536 := by have h1 : a.toNat < 256 := a.toNat_lt; have h2 : b.toNat < 256 := b.toNat_lt; omega
          have HT1 := hide T1
          generalize a.toNat + 256 * b.toNat = z at hcon hzb
          have hzw : IntKind.i64.wrap (z : Int) = (z : Int) := by rw [IntKind.wrap_i64]; omega
          clear T T1 hu hdr
          go_upto_region 3 with fail
          go_cut [] (fun wx => TabAt w wx fb R g B (upd (tabC C t k) (2 + k) (.int .i64 (z : Nat))) (t.drop (6 * k + 2)))
          case first =>
            go_region_with (first | (go_at_call 77; refine hcon.mono ?_; rintro e w3 ⟨rfl, hadv⟩; have T2 := hide ((unhide HT1).read hne hBR hadv); have x0 := (unhide T2).file.cells (2 + k) (by omega); have x1 := (unhide T2).file.free (2 + k); generalize tabC C t k (2 + k) = old at x0))
            all_goals
              go_wp2_with fail
              go_meet
              try rw [hzw]
              exact (unhide T2).set hne hgf hBf (Nat.lt_of_lt_of_le (Nat.lt_of_lt_of_le hg hB) (unhide T2).below.size) (2 + k) (by omega) _
          case rest =>
            have T1 := hcut.drewN 1
            clear HT1 hcon hcut
            obtain ⟨u, hu⟩ := T1.rdr
            have hcon := num32_no R g u _ _ hu (by rw [List.length_drop]; omega)
            have HB := hide T1.below
            clear T1 hu
            go_wp2_with fail
            go_region_dies
            all_goals
              refine hcon.mono ?_
              rintro e w3 ⟨rfl, rfl⟩
              simp only []
              exact ⟨rfl, Or.inr ⟨rfl, by omega, unhide HB⟩⟩
        · have hcon := num16_no R g u _ _ hu (by rw [List.length_drop]; omega)
          have HB := hide T1.below
          clear T T1 hu
          go_wp2_with fail
          go_region_dies
          all_goals
            refine hcon.mono ?_
            rintro e w3 ⟨rfl, rfl⟩
            simp only []
            exact ⟨rfl, Or.inr ⟨rfl, by omega, unhide HB⟩⟩
    · have hk' : k = 5 := by omega
      subst hk'
      have HT := hide T
      clear T
      go_wp2_with fail
      go_end0
      exact Or.inl ⟨rfl, by omega, unhide HT⟩
end Go.Proofs.YthlincikgdblfaaGreat

namespace Go.Proofs.YthlincikgdblfaaGreat
open Go.RowKit
set_option linter.unusedVariables false

theorem Us.low {w : World} {B B' : Nat} {v : Value} {d : List Nat} (h : Us w B v d) (hB : B' ≤ B) : Us w B' v d := ⟨h.1, h.2.imp id fun ⟨g, cap, cur, a, b, c⟩ => ⟨g, cap, cur, a, Nat.le_trans hB b, c⟩⟩
theorem Bs.ge {w w' : World} {B r : Nat} {v : Value} {l : List UInt8} (h : Bs w B v l) (G : w.grownBy w' (some r)) (hr : r < B) : Bs w' B v l := h.kept G (own_ne fun k hk e => by have := (h.lt hk).1; injection e with e; omega)
theorem Us.ge {w w' : World} {B r : Nat} {v : Value} {l : List Nat} (h : Us w B v l) (G : w.grownBy w' (some r)) (hr : r < B) : Us w' B v l := World.ownsRow.kept h G (own_ne fun k hk e => by have := (World.ownsRow.lt h k hk).1; injection e with e; omega)
/-- A variable of the caller's is written behind it. -/
theorem SecN.up {w w0 w3 w4 : World} {g R : Nat} {N : Value} {l : List UInt8} {c : Nat} (h : SecN w0 w3 g R N l c) (G0 : w.grownBy w0 none) (hs : w0.heap.size = w.heap.size + 1) (hg : g < w.heap.size) (G : w3.grownBy w4 (some w.heap.size)) : SecN w w4 g R N l c := by
  obtain ⟨u, hu⟩ := h.rdr
  have hf := h.fresh
  have hsz := h.grown.size
  exact ⟨⟨u, hu.grown G (by intro e; injection e with e; omega) (by intro e; injection e with e; omega) (by omega)⟩, (h.num.ge G (by omega)).low (by omega), by omega, grown_trans (grown_trans G0 h.grown (Or.inl rfl)) G (Or.inr ⟨_, rfl, Nat.le_refl _⟩)⟩
theorem SecM.up {w w0 w3 w4 : World} {g R b : Nat} {p a : Value} {l : List UInt8} {n : Nat} (h : SecM w0 w3 g R b p a l n) (G0 : w.grownBy w0 none) (hs : w0.heap.size = w.heap.size + 1) (hg : g < w.heap.size) (G : w3.grownBy w4 (some w.heap.size)) : SecM w w4 g R b p a l n := by
  obtain ⟨u, hu⟩ := h.rdr
  have hf := h.fresh
  have hfb := h.freshB
  have hsz := h.grown.size
  have hP := h.freshP.ge G (by omega)
  have hA := h.freshA.ge G (by omega)
  have hb := h.bits
  have hbl : b < w3.heap.size := World.block_lt_of_cell? w3 ⟨b, 0, none⟩ hb.c0
  have hc : ∀ j, w4.cell? ⟨b, j, none⟩ = w3.cell? ⟨b, j, none⟩ := grown_cell G hbl (by intro e; injection e with e; omega)
  exact ⟨⟨u, hu.grown G (by intro e; injection e with e; omega) (by intro e; injection e with e; omega) (by omega)⟩, ⟨(hc _).trans hb.c0, (hc _).trans hb.c1, (hc _).trans hb.c2, (hc _).trans hb.c3, hP.mono (Nat.zero_le _), hA.low (Nat.zero_le _)⟩, hP.mono (by omega), hA.low (by omega), by omega, by omega, grown_trans (grown_trans G0 h.grown (Or.inl rfl)) G (Or.inr ⟨_, rfl, Nat.le_refl _⟩)⟩
theorem SecT.up {w w0 w3 w4 : World} {g R b : Nat} {N : Value} {p a : Nat → Value} {l : List UInt8} {n : Nat} (h : SecT w0 w3 g R b N p a l n) (G0 : w.grownBy w0 none) (hs : w0.heap.size = w.heap.size + 1) (hg : g < w.heap.size) (G : w3.grownBy w4 (some w.heap.size)) : SecT w w4 g R b N p a l n := by
  obtain ⟨u, hu⟩ := h.rdr
  have hf := h.fresh
  have hfb := h.freshB
  have hsz := h.grown.size
  refine ⟨⟨u, hu.grown G (by intro e; injection e with e; omega) (by intro e; injection e with e; omega) (by omega)⟩, (h.num.ge G (by omega)).low (by omega), ?_, ?_, by omega, by omega, grown_trans (grown_trans G0 h.grown (Or.inl rfl)) G (Or.inr ⟨_, rfl, Nat.le_refl _⟩)⟩
  · intro i hi
    have hb := h.bits i hi
    have hbl : b < w3.heap.size := World.block_lt_of_cell? w3 ⟨b, i * 4, none⟩ hb.c0
    have hc : ∀ j, w4.cell? ⟨b, j, none⟩ = w3.cell? ⟨b, j, none⟩ := grown_cell G hbl (by intro e; injection e with e; omega)
    exact ⟨(hc _).trans hb.c0, (hc _).trans hb.c1, (hc _).trans hb.c2, (hc _).trans hb.c3, ((h.freshL i hi).1.ge G (by omega)).mono (Nat.zero_le _), ((h.freshL i hi).2.ge G (by omega)).low (Nat.zero_le _)⟩
  · intro i hi
    exact ⟨((h.freshL i hi).1.ge G (by omega)).mono (by omega), ((h.freshL i hi).2.ge G (by omega)).low (by omega)⟩
set_option maxRecDepth 100000 in
set_option maxHeartbeats 1000000 in
theorem ftake_num (fb g : Nat) (v : Value) (l : List UInt8) (kind c : Nat) (w : World) (h : Vw w g v l) (hg : g < w.heap.size) (hk : (kind = 0 ∧ c = 1) ∨ (kind = 2 ∧ c = 256)) :
    Calls Tryz.prog 50 #[.pointer (some ⟨fb, 0, none⟩), .int .i64 kind, v] w fun e w' => (2 * c ≤ l.length ∧ ∃ R N, e = .returned (.agg #[v, .pointer (some ⟨R, 0, none⟩), N, .slice none 0 0]) ∧ SecN w w' g R N l c) ∨ (l.length < 2 * c ∧ e = .panicked (gu 4) ∧ w.grownBy w' none) := by
  have G0 := World.grownBy_alloc w (.cells #[.slice none 0 0, .pointer none, .slice none 0 0, .slice none 0 0] 101) none
  have hz := cells4 w (.slice none 0 0) (.pointer none) (.slice none 0 0) (.slice none 0 0) 101
  generalize hW0 : w.alloc (.cells #[.slice none 0 0, .pointer none, .slice none 0 0, .slice none 0 0] 101) = w0 at G0 hz
  obtain ⟨hs0, z0, z1, z2, z3, zf⟩ := hz
  obtain ⟨off, cap, rfl, hlen, hcap, _⟩ := id h
  have hcon := takeNumbers_any g _ l c w0 (h.kept0 G0 hg) (by omega) (by omega)
  have HG0 := hide G0
  clear h G0
  rcases hk with ⟨rfl, rfl⟩ | ⟨rfl, rfl⟩
  all_goals
    go_enter Tryz.func50, Tryz.ntmps50
    go_wp2_with fail
    clear hW0
    refine hcon.mono ?_
    rintro e w3 (⟨h2, R, N, rfl, hout⟩ | ⟨h2, rfl, g3⟩)
    case inr =>
      have HG := hide (grown_trans (unhide HG0) g3 (Or.inl rfl))
      clear hcon g3
      go_wp2_with fail
      exact ⟨rfl, Or.inr ⟨h2, rfl, unhide HG⟩⟩
    have g3 := hout.grown
    have hs3 := g3.size
    have hlt0 : w.heap.size < w0.heap.size := by omega
    have r0 := (grown_cell g3 hlt0 (by simp) 0).trans z0
    have r1 := (grown_cell g3 hlt0 (by simp) 1).trans z1
    have r2 := (grown_cell g3 hlt0 (by simp) 2).trans z2
    have r3 := (grown_cell g3 hlt0 (by simp) 3).trans z3
    have f0 := (grown_frozen g3 hlt0 (by simp) 0).trans (zf 0)
    have f1 := (grown_frozen g3 hlt0 (by simp) 1).trans (zf 1)
    have f2 := (grown_frozen g3 hlt0 (by simp) 2).trans (zf 2)
    have f3 := (grown_frozen g3 hlt0 (by simp) 3).trans (zf 3)
    obtain ⟨na, nn, nc, hNs⟩ := Us.shape3 hout.num
    subst hNs
    have HO := hide hout
    clear hcon hout g3 z0 z1 z2 z3 zf
    go_wp2_with fail
    refine bodyPost_ret (v := .agg #[.slice (some ⟨g, off, none⟩) l.length cap, .pointer (some ⟨R, 0, none⟩), .slice na nn nc, .slice none 0 0]) (by simp [results, Tryz.results50, go_sem, r0, r1, r2, r3]) rfl (Or.inl ⟨h2, _, _, rfl, ?_⟩)
    exact (unhide HO).up (unhide HG0) hs0 hg (grown4 _ _ _ _ _ _)
set_option maxRecDepth 100000 in
set_option maxHeartbeats 1000000 in
theorem ftake_tree (fb g : Nat) (v : Value) (l : List UInt8) (n : Nat) (C : Nat → Value) (w : World) (h : Vw w g v l) (hg : g < w.heap.size) (hF : Fc w fb C) (hC : C 0 = .int .i64 n) (hn : n ≤ 250) :
    Calls Tryz.prog 50 #[.pointer (some ⟨fb, 0, none⟩), .int .i64 1, v] w fun e w' => (8 * Wd n ≤ l.length ∧ ∃ R N b c p a, e = .returned (.agg #[v, .pointer (some ⟨R, 0, none⟩), N, .slice (some ⟨b, 0, none⟩) 8 c]) ∧ SecT w w' g R b N p a l n) ∨ (l.length < 8 * Wd n ∧ e = .panicked (gu 4) ∧ w.grownBy w' none) := by
  have G0 := World.grownBy_alloc w (.cells #[.slice none 0 0, .pointer none, .slice none 0 0, .slice none 0 0] 101) none
  have hz := cells4 w (.slice none 0 0) (.pointer none) (.slice none 0 0) (.slice none 0 0) 101
  generalize hW0 : w.alloc (.cells #[.slice none 0 0, .pointer none, .slice none 0 0, .slice none 0 0] 101) = w0 at G0 hz
  obtain ⟨hs0, z0, z1, z2, z3, zf⟩ := hz
  obtain ⟨off, cap, rfl, hlen, hcap, _⟩ := id h
  have hcon := takeTree_any g _ l n w0 (h.kept0 G0 hg) (by omega) hn
  have HG0 := hide G0
  have c0 := (hF.grown G0 (by simp)).cells 0 (by decide)
  rw [hC] at c0
  clear h G0 hF hC
  go_enter Tryz.func50, Tryz.ntmps50
  go_wp2_with fail
  clear hW0
  refine hcon.mono ?_
  rintro e w3 (⟨h2, R, N, b, c, p, a, rfl, hout⟩ | ⟨h2, rfl, g3⟩)
  case inr =>
    have HG := hide (grown_trans (unhide HG0) g3 (Or.inl rfl))
    clear hcon g3
    go_wp2_with fail
    exact ⟨rfl, Or.inr ⟨h2, rfl, unhide HG⟩⟩
  have g3 := hout.grown
  have hs3 := g3.size
  have hlt0 : w.heap.size < w0.heap.size := by omega
  have r0 := (grown_cell g3 hlt0 (by simp) 0).trans z0
  have r1 := (grown_cell g3 hlt0 (by simp) 1).trans z1
  have r2 := (grown_cell g3 hlt0 (by simp) 2).trans z2
  have r3 := (grown_cell g3 hlt0 (by simp) 3).trans z3
  have f0 := (grown_frozen g3 hlt0 (by simp) 0).trans (zf 0)
  have f1 := (grown_frozen g3 hlt0 (by simp) 1).trans (zf 1)
  have f2 := (grown_frozen g3 hlt0 (by simp) 2).trans (zf 2)
  have f3 := (grown_frozen g3 hlt0 (by simp) 3).trans (zf 3)
  obtain ⟨na, nn, nc, hNs⟩ := Us.shape3 hout.num
  subst hNs
  have HO := hide hout
  clear hcon hout g3 z0 z1 z2 z3 zf
  go_wp2_with fail
  refine bodyPost_ret (v := .agg #[.slice (some ⟨g, off, none⟩) l.length cap, .pointer (some ⟨R, 0, none⟩), .slice na nn nc, .slice (some ⟨b, 0, none⟩) 8 c]) (by simp [results, Tryz.results50, go_sem, r0, r1, r2, r3]) rfl (Or.inl ⟨h2, _, _, _, _, p, a, rfl, ?_⟩)
  exact (unhide HO).up (unhide HG0) hs0 hg (grown4 _ _ _ _ _ _)
set_option maxRecDepth 100000 in
set_option maxHeartbeats 1000000 in
theorem ftake_marks (fb g : Nat) (v : Value) (l : List UInt8) (n : Nat) (C : Nat → Value) (w : World) (h : Vw w g v l) (hg : g < w.heap.size) (hF : Fc w fb C) (hC : C 0 = .int .i64 n) (hn : n ≤ 250) :
    Calls Tryz.prog 50 #[.pointer (some ⟨fb, 0, none⟩), .int .i64 3, v] w fun e w' => (((n + 1) + 7) / 8 + 2 * (((n + 1) + 15) / 16) ≤ l.length ∧ ∃ R b p a, e = .returned (.agg #[v, .pointer (some ⟨R, 0, none⟩), .slice none 0 0, .slice (some ⟨b, 0, none⟩) 1 1]) ∧ SecM w w' g R b p a l (n + 1)) ∨ (l.length < ((n + 1) + 7) / 8 + 2 * (((n + 1) + 15) / 16) ∧ e = .panicked (gu 4) ∧ w.grownBy w' none) := by
  have G0 := World.grownBy_alloc w (.cells #[.slice none 0 0, .pointer none, .slice none 0 0, .slice none 0 0] 101) none
  have hz := cells4 w (.slice none 0 0) (.pointer none) (.slice none 0 0) (.slice none 0 0) 101
  generalize hW0 : w.alloc (.cells #[.slice none 0 0, .pointer none, .slice none 0 0, .slice none 0 0] 101) = w0 at G0 hz
  obtain ⟨hs0, z0, z1, z2, z3, zf⟩ := hz
  obtain ⟨off, cap, rfl, hlen, hcap, _⟩ := id h
  have hcon := takeMarks_any g _ l (n + 1) w0 (h.kept0 G0 hg) (by omega) (by omega)
  have HG0 := hide G0
  have c0 := (hF.grown G0 (by simp)).cells 0 (by decide)
  rw [hC] at c0
  clear h G0 hF hC
  go_enter Tryz.func50, Tryz.ntmps50
  go_wp2_with fail
  clear hW0
  refine hcon.mono ?_
  rintro e w3 (⟨h2, R, b, p, a, rfl, hout⟩ | ⟨h2, rfl, g3⟩)
  case inr =>
    have HG := hide (grown_trans (unhide HG0) g3 (Or.inl rfl))
    clear hcon g3
    go_wp2_with fail
    exact ⟨rfl, Or.inr ⟨h2, rfl, unhide HG⟩⟩
  have g3 := hout.grown
  have hs3 := g3.size
  have hlt0 : w.heap.size < w0.heap.size := by omega
  have r0 := (grown_cell g3 hlt0 (by simp) 0).trans z0
  have r1 := (grown_cell g3 hlt0 (by simp) 1).trans z1
  have r2 := (grown_cell g3 hlt0 (by simp) 2).trans z2
  have r3 := (grown_cell g3 hlt0 (by simp) 3).trans z3
  have f0 := (grown_frozen g3 hlt0 (by simp) 0).trans (zf 0)
  have f1 := (grown_frozen g3 hlt0 (by simp) 1).trans (zf 1)
  have f2 := (grown_frozen g3 hlt0 (by simp) 2).trans (zf 2)
  have f3 := (grown_frozen g3 hlt0 (by simp) 3).trans (zf 3)
  have HO := hide hout
  clear hcon hout g3 z0 z1 z2 z3 zf
  go_wp2_with fail
  refine bodyPost_ret (v := .agg #[.slice (some ⟨g, off, none⟩) l.length cap, .pointer (some ⟨R, 0, none⟩), .slice none 0 0, .slice (some ⟨b, 0, none⟩) 1 1]) (by simp [results, Tryz.results50, go_sem, r0, r1, r2, r3]) rfl (Or.inl ⟨h2, _, _, p, a, rfl, ?_⟩)
  exact (unhide HO).up (unhide HG0) hs0 hg (grown4 _ _ _ _ _ _)
end Go.Proofs.YthlincikgdblfaaGreat
