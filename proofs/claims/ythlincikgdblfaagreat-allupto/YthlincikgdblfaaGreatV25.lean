import Derived.Test.YthlincikgdblfaaGreatV24
namespace Go.Proofs.YthlincikgdblfaaGreat
open Go.RowKit
set_option linter.unusedVariables false
set_option linter.unusedSimpArgs false

/-- All but blocks F and F + 1 is as it was. -/
structure Ext (F : Nat) (w w' : World) : Prop where
  os : w'.os = w.os
  tape : w'.tape = w.tape
  output : w'.output = w.output
  size : w.heap.size ≤ w'.heap.size
  block : ∀ i, i < w.heap.size → i ≠ F → i ≠ F + 1 → w'.heap[i]? = w.heap[i]?
theorem Ext.refl (F : Nat) (w : World) : Ext F w w := ⟨rfl, rfl, rfl, Nat.le_refl _, fun _ _ _ _ => rfl⟩
theorem Ext.trans {F : Nat} {a b c : World} (h : Ext F a b) (k : Ext F b c) : Ext F a c :=
  ⟨k.os.trans h.os, k.tape.trans h.tape, k.output.trans h.output, Nat.le_trans h.size k.size, fun i hi h1 h2 => (k.block i (Nat.lt_of_lt_of_le hi h.size) h1 h2).trans (h.block i hi h1 h2)⟩
theorem Ext.of {F : Nat} {w w' : World} {r : Option Nat} (G : w.grownBy w' r) (hr : r = none ∨ r = some F ∨ r = some (F + 1)) : Ext F w w' :=
  ⟨G.os, G.tape, G.output, G.size, fun i hi h1 h2 => G.block i hi (by rcases hr with rfl | rfl | rfl <;> simp <;> omega)⟩
theorem Ext.drewN {F : Nat} {w w' : World} (h : Ext F w w') (k : Nat) : Ext F w (w'.drewN k) := ⟨h.os, h.tape, h.output, h.size, h.block⟩
theorem Ext.of_below {F : Nat} {w w' : World} (h : Below F w w') (hs : w.heap.size = F + 2) : Ext F w w' := ⟨h.os, h.tape, h.output, h.size, fun i hi h1 h2 => h.block i (by omega)⟩
theorem Ext.cell {F : Nat} {w w' : World} (h : Ext F w w') {b j : Nat} {x : Value} (hx : w.cell? ⟨b, j, none⟩ = some x) (h1 : b ≠ F) (h2 : b ≠ F + 1) : w'.cell? ⟨b, j, none⟩ = some x :=
  (World.cell?_of_block (a := ⟨b, j, none⟩) (h.block b (World.block_lt_of_cell? w ⟨b, j, none⟩ hx) h1 h2)).trans hx
theorem Ext.owns {F : Nat} {w w' : World} (h : Ext F w w') {e size n : Nat} {v : Value} {xs : List Value} (hx : w.ownsRow (F + 2) e size v n xs) : w'.ownsRow (F + 2) e size v n xs :=
  ⟨hx.1, hx.2.imp id fun ⟨g, cap, cur, a, b, c, d⟩ => ⟨g, cap, cur, a, b, (h.block g (Array.getElem?_eq_some_iff.1 c).1 (by omega) (by omega)).trans c, d⟩⟩
theorem Ext.us {F : Nat} {w w' : World} (h : Ext F w w') {v : Value} {d : List Nat} (hx : Us w (F + 2) v d) : Us w' (F + 2) v d := h.owns hx
theorem Ext.bs {F : Nat} {w w' : World} (h : Ext F w w') {v : Value} {d : List UInt8} (hx : Bs w (F + 2) v d) : Bs w' (F + 2) v d := h.owns hx
theorem Ext.vw {F : Nat} {w w' : World} (h : Ext F w w') {g : Nat} {v : Value} {l : List UInt8} (hx : Vw w g v l) (hg : g < w.heap.size) (h1 : g ≠ F) (h2 : g ≠ F + 1) : Vw w' g v l :=
  hx.kept fun j => World.cell?_of_block (a := ⟨g, j, none⟩) (h.block g hg h1 h2)
/-- Bits whose rows are the load's own. -/
structure Bw (w : World) (F b o : Nat) (p a : Value) (P : List UInt8) (D : List Nat) (n m : Nat) : Prop where
  bits : Bv w b o p a P D n m
  fp : Bs w (F + 2) p P
  fa : Us w (F + 2) a D
  fb : F + 2 ≤ b
theorem Ext.bw {F : Nat} {w w' : World} (h : Ext F w w') {b o : Nat} {p a : Value} {P : List UInt8} {D : List Nat} {n m : Nat} (hx : Bw w F b o p a P D n m) : Bw w' F b o p a P D n m := by
  have hb := hx.fb
  have hc : ∀ {j x}, w.cell? ⟨b, j, none⟩ = some x → w'.cell? ⟨b, j, none⟩ = some x := fun hj => h.cell hj (by omega) (by omega)
  exact ⟨⟨hc hx.bits.c0, hc hx.bits.c1, hc hx.bits.c2, hc hx.bits.c3, (h.bs hx.fp).mono (Nat.zero_le _), (h.us hx.fa).low (Nat.zero_le _)⟩, h.bs hx.fp, h.us hx.fa, hb⟩

/-! What the bytes of a file say, part for part. -/
def tb (s : List UInt8) : List UInt8 := s.drop 12
def nn (s : List UInt8) : Nat := Rot.numAt s 2
def rr (s : List UInt8) : Nat := ((s[6]?).getD 0).toNat
def sz (s : List UInt8) (k : Nat) : Nat := szAt (tb s) k
def cs (s : List UInt8) (k : Nat) : Nat := smAt (tb s) k
def rs (s : List UInt8) : Nat → List UInt8
  | 0 => (tb s).drop 30
  | k + 1 => (rs s k).drop (sz s k)
def dd (s : List UInt8) (k : Nat) : List UInt8 := (rs s k).take (sz s k)
def mk (s : List UInt8) : List UInt8 := (dd s 3).take ((nn s + 1 + 7) / 8)
def mkD (s : List UInt8) : List Nat := Rot.nums ((dd s 3).drop ((nn s + 1 + 7) / 8)) ((nn s + 1 + 15) / 16)
def lastIn (s : List UInt8) : Nat := Rot.numAt (dd s 0) 0
/-- All that a load looks at. -/
structure Good (s : List UInt8) : Prop where
  head : headOk s
  table : 30 ≤ (tb s).length
  z0 : sz s 0 ≤ (rs s 0).length
  l0 : 2 * 1 ≤ (dd s 0).length
  e0 : endOk (dd s 0) ((dd s 0).drop (2 * 1)) (cs s 0)
  z1 : sz s 1 ≤ (rs s 1).length
  l1 : 8 * Wd (nn s) ≤ (dd s 1).length
  e1 : zerosOk (zerosTo (dd s 1) (nn s) 8) (pc (dd s 1) (nn s)) (nn s) 8 ∧ bitsOk (pc (dd s 1) (nn s)) (dc (dd s 1) (nn s)) (nn s) 8 ∧ endOk (dd s 1) ((dd s 1).drop (8 * Wd (nn s))) (cs s 1)
  z2 : sz s 2 ≤ (rs s 2).length
  l2 : 2 * 256 ≤ (dd s 2).length
  e2 : endOk (dd s 2) ((dd s 2).drop (2 * 256)) (cs s 2)
  z3 : sz s 3 ≤ (rs s 3).length
  l3 : (nn s + 1 + 7) / 8 + 2 * ((nn s + 1 + 15) / 16) ≤ (dd s 3).length
  e3 : bitsOk (fun _ => mk s) (fun _ => mkD s) (nn s + 1) 1 ∧ endOk (dd s 3) ((dd s 3).drop ((nn s + 1 + 7) / 8 + 2 * ((nn s + 1 + 15) / 16))) (cs s 3)
  z4 : sz s 4 ≤ (rs s 4).length
  l4 : 2 * Rot.os (mk s) (nn s + 1) ≤ (dd s 4).length
  e4 : endOk (dd s 4) ((dd s 4).drop (2 * Rot.os (mk s) (nn s + 1))) (cs s 4)
  fin : rs s 5 = []
  first : firstOk (Rot.numAt (dd s 2)) s (nn s)
  walk : walkOk (Rot.colRead s 44 (nn s)) (nn s) (rr s) (lastIn s) (mk s) (Rot.nums (dd s 4) (Rot.os (mk s) (nn s + 1)))
def fileCells : Array Value := #[.int .i64 0, .int .i64 0, .int .i64 0, .int .i64 0, .int .i64 0, .int .i64 0, .int .i64 0, .int .u32 0, .int .u32 0, .int .u32 0, .int .u32 0, .int .u32 0, .slice none 0 0, .pointer none, .slice none 0 0, .slice none 0 0, .slice none 0 0, .pointer none, .slice none 0 0, .slice none 0 0, .slice none 0 0, .pointer none, .slice none 0 0, .slice none 0 0, .slice none 0 0, .pointer none, .slice none 0 0, .slice none 0 0, .slice none 0 0, .pointer none, .slice none 0 0, .slice none 0 0]
def C0 : Nat → Value := fun j => (fileCells[j]?).getD .nilIface
theorem made_file (w : World) : Fc (w.alloc (.cells fileCells 104)) w.heap.size C0 := by
  refine ⟨fun j hj => ?_, fun j => frozen_alloc2 _ _ _ _⟩
  rw [cell_alloc2]
  unfold C0
  have hs : j < fileCells.size := hj
  rw [Array.getElem?_eq_getElem hs]
  rfl
/-- The load, behind head, table and k sections. -/
structure At5 (w0 w : World) (F g : Nat) (C : Nat → Value) (rest : List UInt8) : Prop where
  file : Fc w F C
  rdr : ∃ u, Rdr w (F + 1) g u rest
  ext : Ext F w0 w
theorem headOk.n {s : List UInt8} (h : headOk s) : nn s ≤ 250 ∧ isRate (rr s : Int) = true ∧ 12 ≤ s.length := by
  obtain ⟨a4, a5, a6, a8, a9, a10, a11, rest, h1, h2, h3, h4⟩ := h
  subst h1
  exact ⟨h2, h3, by simp⟩
theorem At5.bytes {w0 w w1 : World} {F g : Nat} {C : Nat → Value} {rest : List UInt8} {u : Value} {z : Nat} (h : At5 w0 w F g C rest) (hg : g < F) (hgw : g < w.heap.size) (k : Got w w1 (F + 1) g u rest z) : At5 w0 w1 F g C (rest.drop z) ∧ Vw w1 g u (rest.take z) := by
  obtain ⟨u0, hu⟩ := h.rdr
  obtain ⟨hv, hadv⟩ := k
  have ha : Adv w w1 (F + 1) g (rest.drop z) := hadv
  exact ⟨⟨h.file.grown ha.grown (by intro e; injection e with e; omega), ha.rdr hu, h.ext.trans (Ext.of ha.grown (Or.inr (Or.inr rfl)))⟩, hv.grown ha.grown (by intro e; injection e with e; omega) hgw⟩
theorem At5.grown {w0 w w1 : World} {F g : Nat} {C : Nat → Value} {rest : List UInt8} (h : At5 w0 w F g C rest) (G : w.grownBy w1 none) (hgw : g < w.heap.size) : At5 w0 w1 F g C rest := by
  obtain ⟨u0, hu⟩ := h.rdr
  exact ⟨h.file.grown G (by simp), ⟨u0, hu.grown G (by simp) (by simp) hgw⟩, h.ext.trans (Ext.of G (Or.inl rfl))⟩
theorem At5.drewN {w0 w : World} {F g : Nat} {C : Nat → Value} {rest : List UInt8} (h : At5 w0 w F g C rest) (j : Nat) : At5 w0 (w.drewN j) F g C rest := by
  obtain ⟨u0, hu⟩ := h.rdr
  exact ⟨h.file.drewN j, ⟨u0, hu.drewN j⟩, h.ext.drewN j⟩
def upd4 (C : Nat → Value) (o : Nat) (a b c d : Value) : Nat → Value := upd (upd (upd (upd C o a) (o + 1) b) (o + 2) c) (o + 3) d
theorem At5.store {w0 w : World} {F g : Nat} {C : Nat → Value} {rest : List UInt8} (h : At5 w0 w F g C rest) (hg : g < F) (hgw : g < w.heap.size) (o : Nat) (ho : o + 3 < 32) (a b c d : Value) : At5 w0 ((((w.setCell ⟨F, o, none⟩ a).setCell ⟨F, o + 1, none⟩ b).setCell ⟨F, o + 2, none⟩ c).setCell ⟨F, o + 3, none⟩ d) F g (upd4 C o a b c d) rest ∧ w.grownBy ((((w.setCell ⟨F, o, none⟩ a).setCell ⟨F, o + 1, none⟩ b).setCell ⟨F, o + 2, none⟩ c).setCell ⟨F, o + 3, none⟩ d) (some F) := by
  have G : w.grownBy ((((w.setCell ⟨F, o, none⟩ a).setCell ⟨F, o + 1, none⟩ b).setCell ⟨F, o + 2, none⟩ c).setCell ⟨F, o + 3, none⟩ d) (some F) := grown_trans (grown_trans (grown_trans (grown_setCell _ _ _ _) (grown_setCell _ _ _ _) (Or.inl rfl)) (grown_setCell _ _ _ _) (Or.inl rfl)) (grown_setCell _ _ _ _) (Or.inl rfl)
  obtain ⟨u0, hu⟩ := h.rdr
  exact ⟨⟨(((h.file.set o (by omega) a).set (o + 1) (by omega) b).set (o + 2) (by omega) c).set (o + 3) ho d, ⟨u0, hu.grown G (by intro e; injection e with e; omega) (by intro e; injection e with e; omega) hgw⟩, h.ext.trans (Ext.of G (Or.inr (Or.inl rfl)))⟩, G⟩
end Go.Proofs.YthlincikgdblfaaGreat

namespace Go.Proofs.YthlincikgdblfaaGreat
open Go.RowKit
set_option linter.unusedVariables false
set_option linter.unusedSimpArgs false

theorem Ext.back {w w1 w' : World} (G : w.grownBy w1 none) (E : Ext w.heap.size w1 w') : w.grownBy w' none :=
  ⟨E.os.trans G.os, E.tape.trans G.tape, E.output.trans G.output, Nat.le_trans G.size E.size, fun i hi _ => (E.block i (Nat.lt_of_lt_of_le hi G.size) (by omega) (by omega)).trans (G.block i hi (by simp))⟩
theorem below_back {w w1 w' : World} (G : w.grownBy w1 none) (E : Below w.heap.size w1 w') : w.grownBy w' none :=
  ⟨E.os.trans G.os, E.tape.trans G.tape, E.output.trans G.output, Nat.le_trans G.size E.size, fun i hi _ => (E.block i hi).trans (G.block i hi (by simp))⟩
/-! What each section, taken and looked at, leaves behind. -/
def P0 (s : List UInt8) (w : World) (F : Nat) (C : Nat → Value) : Prop := Us w (F + 2) (C 14) (Rot.nums (dd s 0) 1) ∧ sz s 0 ≤ (rs s 0).length ∧ 2 * 1 ≤ (dd s 0).length ∧ endOk (dd s 0) ((dd s 0).drop (2 * 1)) (cs s 0)
def P1 (s : List UInt8) (w : World) (F : Nat) (C : Nat → Value) : Prop := (∃ (Bt ct : Nat) (p a : Nat → Value), C 19 = .slice (some ⟨Bt, 0, none⟩) 8 ct ∧ ∀ i, i < 8 → Bw w F Bt (i * 4) (p i) (a i) (pc (dd s 1) (nn s) i) (dc (dd s 1) (nn s) i) (nn s) (oc (dd s 1) (nn s) i)) ∧ Us w (F + 2) (C 18) (zerosTo (dd s 1) (nn s) 8) ∧ sz s 1 ≤ (rs s 1).length ∧ 8 * Wd (nn s) ≤ (dd s 1).length ∧ zerosOk (zerosTo (dd s 1) (nn s) 8) (pc (dd s 1) (nn s)) (nn s) 8 ∧ bitsOk (pc (dd s 1) (nn s)) (dc (dd s 1) (nn s)) (nn s) 8 ∧ endOk (dd s 1) ((dd s 1).drop (8 * Wd (nn s))) (cs s 1)
def P2 (s : List UInt8) (w : World) (F : Nat) (C : Nat → Value) : Prop := Us w (F + 2) (C 22) (Rot.nums (dd s 2) 256) ∧ sz s 2 ≤ (rs s 2).length ∧ 2 * 256 ≤ (dd s 2).length ∧ endOk (dd s 2) ((dd s 2).drop (2 * 256)) (cs s 2)
def P3 (s : List UInt8) (w : World) (F : Nat) (C : Nat → Value) : Prop := (∃ (Bm : Nat) (p a : Value), C 27 = .slice (some ⟨Bm, 0, none⟩) 1 1 ∧ Bw w F Bm 0 p a (mk s) (mkD s) (nn s + 1) (Rot.os (mk s) (nn s + 1))) ∧ sz s 3 ≤ (rs s 3).length ∧ (nn s + 1 + 7) / 8 + 2 * ((nn s + 1 + 15) / 16) ≤ (dd s 3).length ∧ bitsOk (fun _ => mk s) (fun _ => mkD s) (nn s + 1) 1 ∧ endOk (dd s 3) ((dd s 3).drop ((nn s + 1 + 7) / 8 + 2 * ((nn s + 1 + 15) / 16))) (cs s 3)
def P4 (s : List UInt8) (w : World) (F : Nat) (C : Nat → Value) : Prop := Us w (F + 2) (C 30) (Rot.nums (dd s 4) (Rot.os (mk s) (nn s + 1))) ∧ sz s 4 ≤ (rs s 4).length ∧ 2 * Rot.os (mk s) (nn s + 1) ≤ (dd s 4).length ∧ endOk (dd s 4) ((dd s 4).drop (2 * Rot.os (mk s) (nn s + 1))) (cs s 4)
theorem P0.ext {s : List UInt8} {w w' : World} {F : Nat} {C C' : Nat → Value} (h : P0 s w F C) (E : Ext F w w') (hC : C' 14 = C 14) : P0 s w' F C' := ⟨by rw [hC]; exact E.us h.1, h.2⟩
theorem P1.ext {s : List UInt8} {w w' : World} {F : Nat} {C C' : Nat → Value} (h : P1 s w F C) (E : Ext F w w') (h8 : C' 18 = C 18) (h9 : C' 19 = C 19) : P1 s w' F C' := by
  obtain ⟨⟨Bt, ct, p, a, h1, h2⟩, h3, h4⟩ := h
  exact ⟨⟨Bt, ct, p, a, by rw [h9]; exact h1, fun i hi => E.bw (h2 i hi)⟩, by rw [h8]; exact E.us h3, h4⟩
theorem P2.ext {s : List UInt8} {w w' : World} {F : Nat} {C C' : Nat → Value} (h : P2 s w F C) (E : Ext F w w') (hC : C' 22 = C 22) : P2 s w' F C' := ⟨by rw [hC]; exact E.us h.1, h.2⟩
theorem P3.ext {s : List UInt8} {w w' : World} {F : Nat} {C C' : Nat → Value} (h : P3 s w F C) (E : Ext F w w') (hC : C' 27 = C 27) : P3 s w' F C' := by
  obtain ⟨⟨Bm, p, a, h1, h2⟩, h4⟩ := h
  exact ⟨⟨Bm, p, a, by rw [hC]; exact h1, E.bw h2⟩, h4⟩
theorem P4.ext {s : List UInt8} {w w' : World} {F : Nat} {C C' : Nat → Value} (h : P4 s w F C) (E : Ext F w w') (hC : C' 30 = C 30) : P4 s w' F C' := ⟨by rw [hC]; exact E.us h.1, h.2⟩
/-- Behind k sections. -/
structure SecAt (w0 w : World) (F g : Nat) (s : List UInt8) (k : Nat) (C : Nat → Value) : Prop where
  at5 : At5 w0 w F g C (rs s k)
  c0 : C 0 = .int .i64 (nn s : Nat)
  c1 : C 1 = .int .i64 (rr s : Nat)
  cz : ∀ j, j < 5 → C (2 + j) = .int .i64 (sz s j : Nat)
  cm : ∀ j, j < 5 → C (7 + j) = .int .u32 (cs s j : Nat)
  p0 : 0 < k → P0 s w F C
  p1 : 1 < k → P1 s w F C
  p2 : 2 < k → P2 s w F C
  p3 : 3 < k → P3 s w F C
  p4 : 4 < k → P4 s w F C
theorem upd4_low (C : Nat → Value) (o : Nat) (a b c d : Value) (j : Nat) (h : j < o ∨ o + 3 < j) : upd4 C o a b c d j = C j := by
  unfold upd4 upd
  rw [if_neg (by omega), if_neg (by omega), if_neg (by omega), if_neg (by omega)]
theorem upd4_at (C : Nat → Value) (o : Nat) (a b c d : Value) : upd4 C o a b c d o = a ∧ upd4 C o a b c d (o + 1) = b ∧ upd4 C o a b c d (o + 2) = c ∧ upd4 C o a b c d (o + 3) = d := by
  unfold upd4 upd
  refine ⟨?_, ?_, ?_, ?_⟩
  · rw [if_neg (by omega), if_neg (by omega), if_neg (by omega), if_pos rfl]
  · rw [if_neg (by omega), if_neg (by omega), if_pos rfl]
  · rw [if_neg (by omega), if_pos rfl]
  · rw [if_pos rfl]
/-- One section more: what the ones ahead have left stays. -/
theorem SecAt.next {w0 w w' : World} {F g : Nat} {s : List UInt8} {k : Nat} {C : Nat → Value} {a b c d : Value} (h : SecAt w0 w F g s k C) (hk : k < 5) (A : At5 w0 w' F g (upd4 C (12 + 4 * k) a b c d) (rs s (k + 1))) (E : Ext F w w') (q0 : k = 0 → P0 s w' F (upd4 C (12 + 4 * k) a b c d)) (q1 : k = 1 → P1 s w' F (upd4 C (12 + 4 * k) a b c d)) (q2 : k = 2 → P2 s w' F (upd4 C (12 + 4 * k) a b c d)) (q3 : k = 3 → P3 s w' F (upd4 C (12 + 4 * k) a b c d)) (q4 : k = 4 → P4 s w' F (upd4 C (12 + 4 * k) a b c d)) : SecAt w0 w' F g s (k + 1) (upd4 C (12 + 4 * k) a b c d) := by
  have low := upd4_low C (12 + 4 * k) a b c d
  refine ⟨A, (low 0 (by omega)).trans h.c0, (low 1 (by omega)).trans h.c1, fun j hj => (low _ (by omega)).trans (h.cz j hj), fun j hj => (low _ (by omega)).trans (h.cm j hj), ?_, ?_, ?_, ?_, ?_⟩
  · intro h1
    by_cases e : k = 0
    · exact q0 e
    · exact (h.p0 (by omega)).ext E (low _ (by omega))
  · intro h1
    by_cases e : k = 1
    · exact q1 e
    · exact (h.p1 (by omega)).ext E (low _ (by omega)) (low _ (by omega))
  · intro h1
    by_cases e : k = 2
    · exact q2 e
    · exact (h.p2 (by omega)).ext E (low _ (by omega))
  · intro h1
    by_cases e : k = 3
    · exact q3 e
    · exact (h.p3 (by omega)).ext E (low _ (by omega))
  · intro h1
    by_cases e : k = 4
    · exact q4 e
    · exact (h.p4 (by omega)).ext E (low _ (by omega))
theorem Vw.shape3 {w : World} {g : Nat} {v : Value} {l : List UInt8} (h : Vw w g v l) : ∃ o n c, v = .slice (some ⟨g, o, none⟩) n c := by
  obtain ⟨o, c, e, _⟩ := h
  exact ⟨o, _, c, e⟩
theorem Rdr.drew {w : World} {b g : Nat} {v : Value} {l : List UInt8} (h : Rdr w b g v l) : Rdr w.drew b g v l := ⟨h.cell, h.free, h.view.kept fun _ => rfl, h.ne⟩
/-- A section that was just laid into the file, as it is looked at. -/
theorem lk_of {w0 w5 w6 w7 : World} {F g R o : Nat} {C : Nat → Value} {rest d rest' : List UInt8} {v n b u : Value} (A : At5 w0 w7 F g (upd4 C o v (.pointer (some ⟨R, 0, none⟩)) n b) rest) (ho : o + 3 < 32) (hv : Vw w5 g v d) (G6 : w5.grownBy w6 none) (G7 : w6.grownBy w7 (some F)) (hu : Rdr w6 R g u rest') (hR : F < R) (hg : g < F) (hg5 : g < w5.heap.size) : Lk w7.drew F o g R v u d rest' := by
  obtain ⟨q0, q1, _, _⟩ := upd4_at C o v (.pointer (some ⟨R, 0, none⟩)) n b
  have c0 := A.file.cells o (by omega)
  have c1 := A.file.cells (o + 1) (by omega)
  rw [q0] at c0
  rw [q1] at c1
  have hs6 := G6.size
  have hs7 := G7.size
  refine ⟨c0, c1, ((hv.kept0 G6 hg5).grown G7 (by intro e; injection e with e; omega) (by omega)).kept fun _ => rfl, (hu.grown G7 (by intro e; injection e with e; omega) (by intro e; injection e with e; omega) (by omega)).drew, ?_⟩
  show g < w7.heap.size
  omega
theorem At5.drew {w0 w : World} {F g : Nat} {C : Nat → Value} {rest : List UInt8} (h : At5 w0 w F g C rest) : At5 w0 w.drew F g C rest := h.drewN 1
end Go.Proofs.YthlincikgdblfaaGreat

namespace Go.Proofs.YthlincikgdblfaaGreat
open Go.RowKit
set_option linter.unusedVariables false

theorem row_says (P : List UInt8) : ∀ n, (Rot.rowOf (Rot.levelBits P 0 n)).ones = Rot.os P n ∧ ∀ i (hi : i < (Rot.rowOf (Rot.levelBits P 0 n)).ahead.length), (Rot.rowOf (Rot.levelBits P 0 n)).ahead[i]'hi = Rot.os P (16 * i)
  | 0 => ⟨rfl, fun i hi => absurd hi (Nat.not_lt_zero _)⟩
  | n + 1 => by
    obtain ⟨h1, h2⟩ := row_says P n
    have hc : (Rot.rowOf (Rot.levelBits P 0 n)).count = n := by rw [row_count, levelBits_len]
    have hf := (row_fits (Rot.levelBits P 0 n)).ahead
    rw [hc] at hf
    have e : Rot.rowOf (Rot.levelBits P 0 (n + 1)) = (Rot.rowOf (Rot.levelBits P 0 n)).add (Rot.bitAt P 0 n == 1) := by rw [levelBits_snoc, rowOf_snoc]
    rw [e]
    refine ⟨?_, ?_⟩
    · show (Rot.rowOf (Rot.levelBits P 0 n)).ones + (Rot.bitAt P 0 n == 1).toNat = _
      rw [h1, Rot.os_succ]
      have hb := Rot.bitAt_lt P 0 n
      by_cases e2 : Rot.bitAt P 0 n = 1
      · rw [e2]; rfl
      · have : Rot.bitAt P 0 n = 0 := by omega
        rw [this]; rfl
    · intro i hi
      have hae : ((Rot.rowOf (Rot.levelBits P 0 n)).add (Rot.bitAt P 0 n == 1)).ahead = if n % 16 = 0 then (Rot.rowOf (Rot.levelBits P 0 n)).ahead ++ [Rot.os P n] else (Rot.rowOf (Rot.levelBits P 0 n)).ahead := by
        show Rot.addAhead _ _ _ = _
        unfold Rot.addAhead
        rw [hc, h1]
      have key : ∀ (l : List Nat) (hl : l = if n % 16 = 0 then (Rot.rowOf (Rot.levelBits P 0 n)).ahead ++ [Rot.os P n] else (Rot.rowOf (Rot.levelBits P 0 n)).ahead) (hi : i < l.length), l[i]'hi = Rot.os P (16 * i) := by
        intro l hl hi
        by_cases h16 : n % 16 = 0
        · rw [if_pos h16] at hl
          subst hl
          rw [List.getElem_append]
          split
          · exact h2 i _
          · simp only [List.length_append, List.length_cons, List.length_nil] at hi
            have : n = 16 * i := by omega
            simp [← this]
        · rw [if_neg h16] at hl
          subst hl
          exact h2 i hi
      exact key _ hae hi
theorem dir_of {P : List UInt8} {D : List Nat} {n : Nat} (h : agrees P D n) (hP : P.length = (n + 7) / 8) (hD : D.length = (n + 15) / 16) : Dir P D n := by
  refine ⟨hP, hD, fun i hi => ?_⟩
  have := (row_says P n).2
  have key : ∀ (l : List Nat), l = (Rot.rowOf (Rot.levelBits P 0 n)).ahead → ∀ (hi : i < l.length), l[i]'hi = Rot.os P (16 * i) := by
    intro l hl hi
    subst hl
    exact this i hi
  exact key D h.2 hi
/-- A section that ends where it must is as long as the table says. -/
theorem end_size {s : List UInt8} {k m : Nat} (hz : sz s k ≤ (rs s k).length) (hl : m ≤ (dd s k).length) (he : (dd s k).drop m = []) : sz s k = m := by
  have h1 := congrArg List.length he
  rw [List.length_drop, List.length_nil] at h1
  unfold dd at *
  rw [List.length_take] at *
  omega
theorem rs_one {s : List UInt8} (h : sz s 0 = 2) : rs s 1 = s.drop 44 := by
  show ((tb s).drop 30).drop (sz s 0) = _
  unfold tb
  rw [h, List.drop_drop, List.drop_drop]
theorem piece_is {s : List UInt8} {k : Nat} (h0 : sz s 0 = 2) (h1 : sz s 1 = 8 * Wd (nn s)) (hk : k < 8) : pc (dd s 1) (nn s) k = piece s 44 (nn s) k := by
  unfold pc piece dd Rot.lvl
  rw [rs_one h0, h1]
  have hle : (k + 1) * Wd (nn s) ≤ 8 * Wd (nn s) := Nat.mul_le_mul_right _ (by omega)
  rw [Nat.add_mul] at hle
  rw [List.drop_take, List.take_take, List.drop_drop]
  have hw : Wd (nn s) = 2 + (nn s + 7) / 8 + 2 * ((nn s + 15) / 16) := rfl
  congr 1
  · unfold Wd at *
    omega
theorem nums_one (l : List UInt8) : Rot.nums l 1 = [Rot.numAt l 0] := rfl
/-- All blocks from B on are as they were. -/
structure Stay (B : Nat) (w w' : World) : Prop where
  size : w.heap.size ≤ w'.heap.size
  block : ∀ i, B ≤ i → i < w.heap.size → w'.heap[i]? = w.heap[i]?
theorem Stay.refl (B : Nat) (w : World) : Stay B w w := ⟨Nat.le_refl _, fun _ _ _ => rfl⟩
theorem Stay.trans {B : Nat} {a b c : World} (h : Stay B a b) (k : Stay B b c) : Stay B a c :=
  ⟨Nat.le_trans h.size k.size, fun i hb hi => (k.block i hb (Nat.lt_of_lt_of_le hi h.size)).trans (h.block i hb hi)⟩
theorem Stay.of {B : Nat} {w w' : World} {r : Option Nat} (G : w.grownBy w' r) (hr : ∀ j, r = some j → j < B ∨ w.heap.size ≤ j) : Stay B w w' :=
  ⟨G.size, fun i hb hi => G.block i hi (fun e => by rcases hr i e.symm with h | h <;> omega)⟩
theorem Stay.cell {B : Nat} {w w' : World} (h : Stay B w w') {b j : Nat} {x : Value} (hb : B ≤ b) (hx : w.cell? ⟨b, j, none⟩ = some x) : w'.cell? ⟨b, j, none⟩ = some x :=
  (World.cell?_of_block (a := ⟨b, j, none⟩) (h.block b hb (World.block_lt_of_cell? w ⟨b, j, none⟩ hx))).trans hx
theorem Stay.owns {B B' : Nat} {w w' : World} (h : Stay B w w') {e size n : Nat} {v : Value} {xs : List Value} (hB : B ≤ B') (hx : w.ownsRow B' e size v n xs) : w'.ownsRow 0 e size v n xs :=
  ⟨hx.1, hx.2.imp id fun ⟨g, cap, cur, a, b, c, d⟩ => ⟨g, cap, cur, a, Nat.zero_le _, (h.block g (Nat.le_trans hB b) (Array.getElem?_eq_some_iff.1 c).1).trans c, d⟩⟩
/-- THE ROWS OF A FILE THAT WAS TAKEN APART. -/
theorem xv_of {w w' : World} {F x : Nat} {s : List UInt8} {C : Nat → Value} {Bt Bm : Nat} {p a : Nat → Value} {pm am : Value} (X : XOut w w' x (nn s) (rr s) (lastIn s) (zerosTo (dd s 1) (nn s) 8) (Rot.nums (dd s 2) 256) (C 30) p a (pc (dd s 1) (nn s)) pm am (mk s) 8)
    (hb : ∀ i, i < 8 → Bw w F Bt (i * 4) (p i) (a i) (pc (dd s 1) (nn s) i) (dc (dd s 1) (nn s) i) (nn s) (oc (dd s 1) (nn s) i)) (hm : Bw w F Bm 0 pm am (mk s) (mkD s) (nn s + 1) (Rot.os (mk s) (nn s + 1))) (hq : Us w (F + 2) (C 30) (Rot.nums (dd s 4) (Rot.os (mk s) (nn s + 1))))
    (h0 : sz s 0 = 2) (h1 : sz s 1 = 8 * Wd (nn s)) (h1l : 8 * Wd (nn s) ≤ (dd s 1).length) (hz : zerosOk (zerosTo (dd s 1) (nn s) 8) (pc (dd s 1) (nn s)) (nn s) 8) (hbk : bitsOk (pc (dd s 1) (nn s)) (dc (dd s 1) (nn s)) (nn s) 8) (hmk : bitsOk (fun _ => mk s) (fun _ => mkD s) (nn s + 1) 1) (h3l : (nn s + 1 + 7) / 8 + 2 * ((nn s + 1 + 15) / 16) ≤ (dd s 3).length) {w'' : World} (hFx : F ≤ x) (S : Stay F w' w'') :
    Xv w'' x s (nn s) (rr s) (lastIn s) (Rot.numAt (dd s 2)) (mk s) (Rot.nums (dd s 4) (Rot.os (mk s) (nn s + 1))) := by
  have G := X.grown
  have cc : ∀ {j v}, w'.cell? ⟨x, j, none⟩ = some v → w''.cell? ⟨x, j, none⟩ = some v := fun h => S.cell hFx h
  refine ⟨cc X.len, cc X.rate, cc X.last, ⟨fun k hk => ?_⟩, fun c hc => ⟨?_, Rot.numAt_lt _ _⟩, ⟨pm, am, mkD s, ⟨cc X.m0, cc X.m1, cc X.m2, cc X.m3, S.owns (by omega) (hm.fp.kept0 G), S.owns (by omega) (hm.fa.kept0 G)⟩, dir_of (hmk 0 (by decide)) ?_ ?_⟩, ⟨C 30, cc X.places, S.owns (by omega) (hq.kept0 G)⟩⟩
  · obtain ⟨t0, t1, t2, t3, t4⟩ := X.tree k hk
    have hpe := piece_is h0 h1 hk
    have hz2 := hz k hk
    have hle : (k + 1) * Wd (nn s) ≤ 8 * Wd (nn s) := Nat.mul_le_mul_right _ (by omega)
    rw [Nat.add_mul] at hle
    have hP : (pc (dd s 1) (nn s) k).length = (nn s + 7) / 8 := by
      unfold pc
      rw [List.length_take, List.length_drop, Nat.min_eq_left]
      unfold Wd at *
      omega
    have hD : (dc (dd s 1) (nn s) k).length = (nn s + 15) / 16 := by unfold dc; rw [Rot.nums_len]
    have hdir := dir_of (hbk k hk) hP hD
    refine ⟨p k, a k, dc (dd s 1) (nn s) k, ?_, ?_, by rw [← hpe]; exact hdir⟩
    · rw [cc t0, hz2, hpe, os_piece s 44 (nn s) k (nn s) (Nat.le_refl _)]
      have := Rot.zs_le s (Rot.lvl 44 (nn s) k) (nn s)
      congr 3
      omega
    · rw [← hpe]
      exact ⟨cc t1, cc t2, cc t3, cc t4, S.owns (by omega) ((hb k hk).fp.kept0 G), S.owns (by omega) ((hb k hk).fa.kept0 G)⟩
  · rw [cc (X.first c hc)]
    have hc2 : c < (Rot.nums (dd s 2) 256).length := by rw [Rot.nums_len]; exact hc
    rw [List.getElem?_eq_getElem hc2, Option.getD_some, Rot.nums_get]
  · unfold mk
    rw [List.length_take, Nat.min_eq_left]
    omega
  · unfold mkD
    rw [Rot.nums_len]
end Go.Proofs.YthlincikgdblfaaGreat
