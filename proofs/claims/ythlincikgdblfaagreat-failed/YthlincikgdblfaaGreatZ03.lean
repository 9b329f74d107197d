import Derived.Test.YthlincikgdblfaaGreatZ02
import Derived.Deep.RegionLaw
namespace Go.Proofs.YthlincikgdblfaaGreat
open Go.RowKit
set_option linter.unusedVariables false

/-- THE BITS IN MEMORY: block b holds the four fields; the two rows are apart. -/
structure Bit (w : World) (B b : Nat) (p a : Value) (r : Rot.Row) : Prop where
  c0 : w.cell? ⟨b, 0, none⟩ = some p
  c1 : w.cell? ⟨b, 1, none⟩ = some a
  c2 : w.cell? ⟨b, 2, none⟩ = some (.int .i64 (r.count : Int))
  c3 : w.cell? ⟨b, 3, none⟩ = some (.int .u16 (r.ones : Int))
  f0 : w.frozen? ⟨b, 0, none⟩ = false
  f1 : w.frozen? ⟨b, 1, none⟩ = false
  f2 : w.frozen? ⟨b, 2, none⟩ = false
  f3 : w.frozen? ⟨b, 3, none⟩ = false
  packed : Bs w B p r.packed
  ahead : Us w B a r.ahead
  apart : Apart p a
  pb : p.ownBlock ≠ some b
  ab : a.ownBlock ≠ some b
  lt : b < w.heap.size
  le : B ≤ b


theorem info16 : (Tryz.prog.info? 67).map (fun i => (i.zero, i.size, i.bytes)) = some (some (.int .u16 0), 1, 2) := by kernel_rfl
theorem by16_one (l : List Nat) : ∀ u ∈ by16 l, u.oneCell' = true := by
  intro u hu
  simp only [by16, List.mem_map] at hu
  obtain ⟨b, _, rfl⟩ := hu
  rfl
/-- APPEND OF ONE NUMBER, as one step of a region that draws. -/
theorem step_app16 {ops : Array Oper} {o : Oper} {a : Act} {w : World} {K : Act → World → Prop} {Q : Exit → Act → World → Prop} {E : Prop}
    (hg : o.guard = none) (s x : Operand) (hop : o.op = Op.call { callee := Callee.builtin Builtin.append, args := #[s, x], argTypes := #[66, 66] })
    (B : Nat) (v : Value) (d : List Nat) (hs : a.eval s = v) (W : World) (N : Nat) (hw : w = W.alloc (.cells #[.int .u16 (N : Int)] 67)) (hx : a.eval x = .slice (some ⟨W.heap.size, 0, none⟩) 1 1) (hown : Us W B v d)
    (hl : d.length < 1000000) (hB : B ≤ W.heap.size)
    (hK : ∀ g cap w', Us w' B (.slice (some ⟨g, 0, none⟩) (d.length + 1) cap) (d ++ [N]) → W.grownBy w' v.ownBlock → At W v (.slice (some ⟨g, 0, none⟩) (d.length + 1) cap) → K (a.put o.dst (.slice (some ⟨g, 0, none⟩) (d.length + 1) cap)) w') :
    if Region.wanted o (yielded ops a.tmps) = true then Oper.wp Tryz.prog o a w K Q else E := by
  have hwt : Region.wanted o (yielded ops a.tmps) = true := by simp [Region.wanted, hg]
  rw [if_pos hwt]
  subst hw
  obtain ⟨i0, hi, hz0, hz1, hz2⟩ := info_parts info16
  obtain ⟨v', w', hr, h2, h3, h4, h5⟩ := run_append_own_at (P := Tryz.prog) (W.alloc (.cells #[.int .u16 (N : Int)] 67)) B 66 o.type 67 i0 (.int .u16 0) 1 2 Tryz.underlying66 hi hz0 hz1 hz2 rfl (by decide) v d.length (by16 d) (World.ownsRow.alloc hown _) ⟨W.heap.size, 0, none⟩ 1 1 (by16 [N]) rfl (cell_one_new _ _ _) (by16_one [N]) (by unfold maxLen; omega) (by omega) (by simp; omega)
  obtain ⟨g, cap, rfl⟩ : ∃ g cap, v' = .slice (some ⟨g, 0, none⟩) (d.length + 1) cap := by
    rcases h2.2 with ⟨hv, hn⟩ | ⟨g, cap, _, hv, _⟩
    · omega
    · exact ⟨g, cap, hv⟩
  unfold Oper.wp
  simp [execOp, hop, resolve, invoke, builtin, hs, hx, hr, Result.andThen]
  refine hK g cap w' ?_ (grown_trans (World.grownBy_alloc W _ _) h3 (Or.inl rfl)) ?_
  · unfold Us
    rw [List.length_append]
    simpa [by16] using h2
  · rcases h5 with h5 | h5
    · exact Or.inl h5
    · exact Or.inr ⟨_, h5, by simp⟩

theorem Bs.frozen {w : World} {B g n cap : Nat} {l : List UInt8} (h : Bs w B (.slice (some ⟨g, 0, none⟩) n cap) l) (j : Nat) : w.frozen? ⟨g, j, none⟩ = false := by
  rcases h.form with ⟨e, _⟩ | ⟨g', cap', e, _⟩
  · simp at e
  · simp only [Value.slice.injEq, Option.some.injEq, Addr.mk.injEq, and_true] at e
    obtain ⟨rfl, rfl, rfl⟩ := e
    exact World.ownsRow.frozenAt h j
theorem grown_setCell (w : World) (b j : Nat) (v : Value) : w.grownBy (w.setCell ⟨b, j, none⟩ v) (some b) :=
  ⟨rfl, rfl, rfl, by simp, fun k _ hk => heap_setCell_other w ⟨b, j, none⟩ k v (fun e => hk (by simp [e]))⟩
theorem below_setCell (w : World) (B b j : Nat) (v : Value) (hb : B ≤ b) : Below B w (w.setCell ⟨b, j, none⟩ v) := (Below.refl B w).setCell hb v
theorem grown_of_below {w w' : World} (h : Below w.heap.size w w') : w.grownBy w' none := ⟨h.os, h.tape, h.output, h.size, fun k hk _ => h.block k hk⟩
theorem Apx.slice {w w' : World} {B : Nat} {v v' : Value} {l : List UInt8} (A : Apx w w' B v v' l) (h : 0 < l.length) : ∃ g cap, v' = .slice (some ⟨g, 0, none⟩) l.length cap := by
  rcases A.own.form with ⟨_, rfl⟩ | ⟨g, cap, hv, _⟩
  · simp at h
  · exact ⟨g, cap, hv⟩
theorem ne_of_at {w : World} {v v' : Value} {b : Nat} (h : v.ownBlock ≠ some b) (hat : At w v v') (hb : b < w.heap.size) : v'.ownBlock ≠ some b := by
  rcases hat with e | ⟨k, e, hk⟩
  · rw [e]; exact h
  · rw [e]; intro e2; cases e2; omega
theorem below_grown {w w1 : World} {B : Nat} {r : Option Nat} (g : w.grownBy w1 r) (hB : B ≤ w.heap.size) (hr : ∀ k, r = some k → B ≤ k) : Below B w w1 := (Below.refl _ _).grown g hB hr
theorem Bit.cells {w w1 : World} {B b : Nat} {p a : Value} {r : Rot.Row} (h : Bit w B b p a r) {row : Option Nat} (g : w.grownBy w1 row) (hne : row ≠ some b) :
    w1.cell? ⟨b, 0, none⟩ = some p ∧ w1.cell? ⟨b, 1, none⟩ = some a ∧ w1.cell? ⟨b, 2, none⟩ = some (.int .i64 (r.count : Int)) ∧ w1.cell? ⟨b, 3, none⟩ = some (.int .u16 (r.ones : Int)) ∧ w1.frozen? ⟨b, 0, none⟩ = false ∧ w1.frozen? ⟨b, 1, none⟩ = false ∧ w1.frozen? ⟨b, 2, none⟩ = false ∧ w1.frozen? ⟨b, 3, none⟩ = false := by
  have e := g.block b h.lt (fun e => hne e.symm)
  have c : ∀ j, w1.cell? ⟨b, j, none⟩ = w.cell? ⟨b, j, none⟩ := fun j => World.cell?_of_block (a := ⟨b, j, none⟩) e
  have f : ∀ j, w1.frozen? ⟨b, j, none⟩ = w.frozen? ⟨b, j, none⟩ := fun j => World.frozen?_of_block (a := ⟨b, j, none⟩) e
  refine ⟨?_, ?_, ?_, ?_, ?_, ?_, ?_, ?_⟩
  · rw [c, h.c0]
  · rw [c, h.c1]
  · rw [c, h.c2]
  · rw [c, h.c3]
  · rw [f, h.f0]
  · rw [f, h.f1]
  · rw [f, h.f2]
  · rw [f, h.f3]
theorem Bit.app0 {w w1 : World} {B b : Nat} {p a p' : Value} {r : Rot.Row} {l : List UInt8} (h : Bit w B b p a r) (A : Apx w w1 B p p' l) : Bit (w1.setCell ⟨b, 0, none⟩ p') B b p' a ⟨l, r.ahead, r.count, r.ones⟩ ∧ Below B w (w1.setCell ⟨b, 0, none⟩ p') := by
  obtain ⟨c0, c1, c2, c3, f0, f1, f2, f3⟩ := h.cells A.grown h.pb
  have hp' := ne_of_at h.pb A.at' h.lt
  have G := grown_setCell w1 b 0 p'
  have hlt : b < w1.heap.size := Nat.lt_of_lt_of_le h.lt A.size
  refine ⟨⟨World.cell?_setCell_same _ _ _ c0, ?_, ?_, ?_, ?_, ?_, ?_, ?_, ?_, ?_, ?_, hp', h.ab, by simpa using hlt, h.le⟩, ?_⟩
  · rw [World.cell?_setCell_other _ _ _ _ (by simp)]; exact c1
  · rw [World.cell?_setCell_other _ _ _ _ (by simp)]; exact c2
  · rw [World.cell?_setCell_other _ _ _ _ (by simp)]; exact c3
  · rw [World.frozen?_setCell]; exact f0
  · rw [World.frozen?_setCell]; exact f1
  · rw [World.frozen?_setCell]; exact f2
  · rw [World.frozen?_setCell]; exact f3
  · exact A.own.kept G (Or.inr hp')
  · exact World.ownsRow.kept (World.ownsRow.kept h.ahead A.grown h.apart.symm.kept) G (Or.inr h.ab)
  · exact h.apart.step A.at' (fun k hk => (World.ownsRow.lt h.ahead k hk).2)
  · exact (below_grown A.grown (Nat.le_trans h.le (Nat.le_of_lt h.lt)) (fun k hk => (h.packed.lt hk).1)).trans (below_setCell _ _ _ _ _ h.le)
theorem Bit.app1 {w w1 : World} {B b : Nat} {p a a' : Value} {r : Rot.Row} {d : List Nat} (h : Bit w B b p a r) (O : Us w1 B a' d) (g : w.grownBy w1 a.ownBlock) (hat : At w a a') : Bit (w1.setCell ⟨b, 1, none⟩ a') B b p a' ⟨r.packed, d, r.count, r.ones⟩ ∧ Below B w (w1.setCell ⟨b, 1, none⟩ a') := by
  obtain ⟨c0, c1, c2, c3, f0, f1, f2, f3⟩ := h.cells g h.ab
  have ha' := ne_of_at h.ab hat h.lt
  have G := grown_setCell w1 b 1 a'
  have hlt : b < w1.heap.size := Nat.lt_of_lt_of_le h.lt g.size
  refine ⟨⟨?_, World.cell?_setCell_same _ _ _ c1, ?_, ?_, ?_, ?_, ?_, ?_, ?_, ?_, ?_, h.pb, ha', by simpa using hlt, h.le⟩, ?_⟩
  · rw [World.cell?_setCell_other _ _ _ _ (by simp)]; exact c0
  · rw [World.cell?_setCell_other _ _ _ _ (by simp)]; exact c2
  · rw [World.cell?_setCell_other _ _ _ _ (by simp)]; exact c3
  · rw [World.frozen?_setCell]; exact f0
  · rw [World.frozen?_setCell]; exact f1
  · rw [World.frozen?_setCell]; exact f2
  · rw [World.frozen?_setCell]; exact f3
  · exact (h.packed.kept g h.apart.kept).kept G (Or.inr h.pb)
  · exact World.ownsRow.kept O G (Or.inr ha')
  · exact (h.apart.symm.step hat (fun k hk => (h.packed.lt hk).2)).symm
  · exact (below_grown g (Nat.le_trans h.le (Nat.le_of_lt h.lt)) (fun k hk => (World.ownsRow.lt h.ahead k hk).1)).trans (below_setCell _ _ _ _ _ h.le)
theorem Bit.put2 {w : World} {B b : Nat} {p a : Value} {r : Rot.Row} (h : Bit w B b p a r) (n : Nat) (N : Int) (hN : N = (n : Int)) : Bit (w.setCell ⟨b, 2, none⟩ (.int .i64 N)) B b p a ⟨r.packed, r.ahead, n, r.ones⟩ ∧ Below B w (w.setCell ⟨b, 2, none⟩ (.int .i64 N)) := by
  subst hN
  have G := grown_setCell w b 2 (.int .i64 (n : Int))
  refine ⟨⟨?_, ?_, World.cell?_setCell_same _ _ _ h.c2, ?_, ?_, ?_, ?_, ?_, h.packed.kept G (Or.inr h.pb), World.ownsRow.kept h.ahead G (Or.inr h.ab), h.apart, h.pb, h.ab, by simpa using h.lt, h.le⟩, below_setCell _ _ _ _ _ h.le⟩
  · rw [World.cell?_setCell_other _ _ _ _ (by simp)]; exact h.c0
  · rw [World.cell?_setCell_other _ _ _ _ (by simp)]; exact h.c1
  · rw [World.cell?_setCell_other _ _ _ _ (by simp)]; exact h.c3
  · rw [World.frozen?_setCell]; exact h.f0
  · rw [World.frozen?_setCell]; exact h.f1
  · rw [World.frozen?_setCell]; exact h.f2
  · rw [World.frozen?_setCell]; exact h.f3
theorem Bit.put3 {w : World} {B b : Nat} {p a : Value} {r : Rot.Row} (h : Bit w B b p a r) (n : Nat) (N : Int) (hN : N = (n : Int)) : Bit (w.setCell ⟨b, 3, none⟩ (.int .u16 N)) B b p a ⟨r.packed, r.ahead, r.count, n⟩ ∧ Below B w (w.setCell ⟨b, 3, none⟩ (.int .u16 N)) := by
  subst hN
  have G := grown_setCell w b 3 (.int .u16 (n : Int))
  refine ⟨⟨?_, ?_, ?_, World.cell?_setCell_same _ _ _ h.c3, ?_, ?_, ?_, ?_, h.packed.kept G (Or.inr h.pb), World.ownsRow.kept h.ahead G (Or.inr h.ab), h.apart, h.pb, h.ab, by simpa using h.lt, h.le⟩, below_setCell _ _ _ _ _ h.le⟩
  · rw [World.cell?_setCell_other _ _ _ _ (by simp)]; exact h.c0
  · rw [World.cell?_setCell_other _ _ _ _ (by simp)]; exact h.c1
  · rw [World.cell?_setCell_other _ _ _ _ (by simp)]; exact h.c2
  · rw [World.frozen?_setCell]; exact h.f0
  · rw [World.frozen?_setCell]; exact h.f1
  · rw [World.frozen?_setCell]; exact h.f2
  · rw [World.frozen?_setCell]; exact h.f3
theorem Bit.drewN {w : World} {B b : Nat} {p a : Value} {r : Rot.Row} (h : Bit w B b p a r) (k : Nat) : Bit (w.drewN k) B b p a r := ⟨h.c0, h.c1, h.c2, h.c3, h.f0, h.f1, h.f2, h.f3, h.packed, h.ahead, h.apart, h.pb, h.ab, h.lt, h.le⟩
theorem Bit.drew {w : World} {B b : Nat} {p a : Value} {r : Rot.Row} (h : Bit w B b p a r) : Bit w.drew B b p a r := h.drewN 1
theorem by8_set (l : List UInt8) (j : Nat) (c : UInt8) : by8 (l.set j c) = (by8 l).set j (.int .u8 (c.toNat : Int)) := by simp [by8, List.map_set]
theorem Bit.putP {w : World} {B b g cap : Nat} {a : Value} {r : Rot.Row} (h : Bit w B b (.slice (some ⟨g, 0, none⟩) r.packed.length cap) a r) (j : Nat) (c : UInt8) (N : Int) (hN : N = (c.toNat : Int)) : Bit (w.setCell ⟨g, j, none⟩ (.int .u8 N)) B b (.slice (some ⟨g, 0, none⟩) r.packed.length cap) a ⟨r.packed.set j c, r.ahead, r.count, r.ones⟩ ∧ Below B w (w.setCell ⟨g, j, none⟩ (.int .u8 N)) := by
  subst hN
  have hgb : g ≠ b := fun e => h.pb (by simp [Value.ownBlock, e])
  have S := World.ownsRow.stored h.packed j (.int .u8 (c.toNat : Int))
  have hl : r.packed.length = (r.packed.set j c).length := by simp
  refine ⟨⟨?_, ?_, ?_, ?_, ?_, ?_, ?_, ?_, ?_, World.ownsRow.kept h.ahead S.2 (by
      have := h.apart.symm.kept
      simpa [Value.ownBlock] using this), h.apart, h.pb, h.ab, by simpa using h.lt, h.le⟩, below_setCell _ _ _ _ _ (h.packed.lt rfl).1⟩
  · rw [World.cell?_setCell_other _ _ _ _ (by intro e; cases e; exact hgb rfl)]; exact h.c0
  · rw [World.cell?_setCell_other _ _ _ _ (by intro e; cases e; exact hgb rfl)]; exact h.c1
  · rw [World.cell?_setCell_other _ _ _ _ (by intro e; cases e; exact hgb rfl)]; exact h.c2
  · rw [World.cell?_setCell_other _ _ _ _ (by intro e; cases e; exact hgb rfl)]; exact h.c3
  · rw [World.frozen?_setCell]; exact h.f0
  · rw [World.frozen?_setCell]; exact h.f1
  · rw [World.frozen?_setCell]; exact h.f2
  · rw [World.frozen?_setCell]; exact h.f3
  · unfold Bs
    rw [by8_set, ← hl]
    exact S.1
end Go.Proofs.YthlincikgdblfaaGreat
