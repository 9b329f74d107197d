import Derived.Test.YthlincikgdblfaaGreatV01
import Derived.Laws.BitsAllLaws
import Derived.Lib.AppendZeros
import Derived.Deep.RegionLaw
namespace Go.Proofs.YthlincikgdblfaaGreat
open Go.RowKit
set_option linter.unusedVariables false

theorem and8 (c m : UInt8) : bits BinOp.and IntKind.u8 (c.toNat : Int) (m.toNat : Int) = ((c &&& m).toNat : Int) := by
  rw [UInt8.toNat_and, u8_and_nat _ _ c.toNat_lt m.toNat_lt]
theorem or8 (c m : UInt8) : bits BinOp.or IntKind.u8 (c.toNat : Int) (m.toNat : Int) = ((c ||| m).toNat : Int) := by
  rw [UInt8.toNat_or, u8_or_nat _ _ c.toNat_lt m.toNat_lt]

set_option maxHeartbeats 1000000 in
theorem split_any (B : Nat) (v : Value) (l : List UInt8) (m : UInt8) (w : World) (h : Bs w B v l) (hl : l.length < 1000) :
    Calls Tryz.prog 125 #[v, .int .u8 m.toNat] w fun e w' => ∃ z o, e = .returned (.tuple #[z, o]) ∧ Bs w' w.heap.size z (Rot.zerosOf m l) ∧ Bs w' w.heap.size o (Rot.onesOf m l) ∧ Apart z o ∧ w.grownBy w' none := by
  rcases h.form with ⟨rfl, rfl⟩ | ⟨g, cap, rfl, hg1, hg2, hg3⟩
  · go_enter Tryz.func125, Tryz.ntmps125
    go_wp2_with fail
    refine wp_loop_rounds 1 ?_
    rw [rounds_succ]
    go_wp2_with fail
    go_ret2
    exact ⟨_, _, rfl, Bs.nil _ _, Bs.nil _ _, Apart.nil _, World.grownBy.refl _ _⟩
  · have HU := hide h
    clear h
    go_enter Tryz.func125, Tryz.ntmps125
    go_wp2_with fail
    go_loopw [4, 5, 10] (fun z o i wr => ∃ k : Nat, k ≤ l.length ∧ i = .int .i64 k ∧ Bs wr w.heap.size z (Rot.zerosOf m (l.take k)) ∧ Bs wr w.heap.size o (Rot.onesOf m (l.take k)) ∧ Apart z o ∧ w.grownBy wr none) (fun _ _ i _ => l.length - (intOf i).toNat)
    case atStart => exact ⟨0, Nat.zero_le _, rfl, Bs.nil _ _, Bs.nil _ _, Apart.nil _, World.grownBy.refl _ _⟩
    case round =>
      obtain ⟨k, hk, rfl, Z, O, AP, G⟩ := hrel
      by_cases hlt : k < l.length
      · have hck := Bs.cell (Bs.kept0 (unhide HU) G) k hlt
        have hz1 : (Rot.zerosOf m (l.take k)).length < 1000000 := by
          have := List.length_filter_le (fun c : UInt8 => c &&& m == 0) (l.take k)
          rw [List.length_take] at this
          unfold Rot.zerosOf
          omega
        have ho1 : (Rot.onesOf m (l.take k)).length < 1000000 := by
          have := List.length_filter_le (fun c : UInt8 => !(c &&& m == 0)) (l.take k)
          rw [List.length_take] at this
          unfold Rot.onesOf
          omega
        have hsz := G.size
        have HZ := hide (take_filter_snoc (fun c : UInt8 => c &&& m == 0) l k hlt)
        have HO := hide (take_filter_snoc (fun c : UInt8 => !(c &&& m == 0)) l k hlt)
        generalize hcc : l[k]'hlt = c at hck HZ HO
        clear hcc
        cases hm : c &&& m == 0 with
        | true =>
          have hm2 : (bits BinOp.and IntKind.u8 (c.toNat : Int) (m.toNat : Int) == 0) = true := by
            have : c &&& m = 0 := by simpa using hm
            rw [and8, this]; rfl
          go_wp2_with (at_builtin; refine wp_app1 _ rfl (.tmp 18) (.tmp 20) rfl w.heap.size _ (Rot.zerosOf m (l.take k)) rfl wr _ rfl rfl Z c ?b0 hz1 hsz ?_)
          case b0 => rfl
          intro z' w1 A1
          have G1 := A1.fresh G Z
          have B1 := A1.own
          have O1 := O.kept A1.grown AP.symm.kept
          have AP1 := AP.step A1.at' (fun k hk => (O.lt hk).2)
          have e2 : Rot.zerosOf m (l.take k) ++ [c] = Rot.zerosOf m (l.take (k + 1)) := by
            unfold Rot.zerosOf
            rw [unhide HZ, hm]; simp
          have e3 : Rot.onesOf m (l.take k) = Rot.onesOf m (l.take (k + 1)) := by
            unfold Rot.onesOf
            rw [unhide HO, hm]; simp
          rw [e2] at B1
          rw [e3] at O1
          have HB1 := hide B1
          have HO1 := hide O1
          have HAP := hide AP1
          clear Z O A1 B1 O1 G hck hz1 ho1 e2 e3 AP AP1 hm hm2
          go_wp2_with fail
          go_roundw
          case rel => exact ⟨k + 1, by omega, by go_num, unhide HB1, unhide HO1, unhide HAP, G1⟩
          case measure => simp [intOf]; omega
        | false =>
          have hm2 : (bits BinOp.and IntKind.u8 (c.toNat : Int) (m.toNat : Int) == 0) = false := by
            rw [and8]
            have h0 : ¬ c &&& m = 0 := by simpa using hm
            have h1 : ¬ (c &&& m).toNat = 0 := fun e => h0 (UInt8.toNat_inj.1 e)
            simp only [beq_eq_false_iff_ne, ne_eq]
            omega
          go_wp2_with (at_builtin; refine wp_app1 _ rfl (.tmp 22) (.tmp 24) rfl w.heap.size _ (Rot.onesOf m (l.take k)) rfl wr _ rfl rfl O c ?b0 ho1 hsz ?_)
          case b0 => rfl
          intro o' w1 A1
          have G1 := A1.fresh G O
          have B1 := A1.own
          have Z1 := Z.kept A1.grown AP.kept
          have AP1 := (AP.symm.step A1.at' (fun k hk => (Z.lt hk).2)).symm
          have e2 : Rot.onesOf m (l.take k) ++ [c] = Rot.onesOf m (l.take (k + 1)) := by
            unfold Rot.onesOf
            rw [unhide HO, hm]; simp
          have e3 : Rot.zerosOf m (l.take k) = Rot.zerosOf m (l.take (k + 1)) := by
            unfold Rot.zerosOf
            rw [unhide HZ, hm]; simp
          rw [e2] at B1
          rw [e3] at Z1
          have HB1 := hide B1
          have HO1 := hide Z1
          have HAP := hide AP1
          clear Z O A1 B1 Z1 G hck hz1 ho1 e2 e3 AP AP1 hm hm2
          go_wp2_with fail
          go_roundw
          case rel => exact ⟨k + 1, by omega, by go_num, unhide HO1, unhide HB1, unhide HAP, G1⟩
          case measure => simp [intOf]; omega
      · have hk' : k = l.length := by omega
        subst hk'
        rw [List.take_length] at Z O
        go_wp2
        go_ret2
        exact ⟨_, _, rfl, Z, O, AP, G⟩
end Go.Proofs.YthlincikgdblfaaGreat

namespace Go.Proofs.YthlincikgdblfaaGreat
open Go.RowKit
set_option linter.unusedVariables false

set_option maxRecDepth 100000 in
set_option maxHeartbeats 1000000 in
theorem grow_any (n : Nat) (w : World) (hn : n < 100000) :
    Calls Tryz.prog 149 #[.slice none 0 0, .int .i64 n] w fun e w' => ∃ v', e = .returned v' ∧ Bs w' w.heap.size v' [] ∧ w.grownBy w' none := by
  obtain ⟨i0, hi, hz0, hz1, hz2⟩ := info_parts info8
  by_cases h0 : n = 0
  · subst h0
    go_enter Tryz.func149, Tryz.ntmps149
    go_wp2_with fail
    go_ret
    exact ⟨_, rfl, Bs.nil _ _, World.grownBy.refl _ _⟩
  · have hpos : 0 < n := by omega
    have hrun := fun ty => Lib.run_append_nil_zeros (P := Tryz.prog) w 45 3 ty 5 i0 (.int .u8 0) .i64 .i64 Tryz.underlying45 Tryz.underlying3 hi hz0 n hpos (by rw [hz1]; decide) (by omega) (by rw [hz2]; omega)
    have HR := hide hrun
    clear hrun
    go_enter Tryz.func149, Tryz.ntmps149
    go_wp2_with (at_builtin; refine Lib.wpList_append_run _ rfl (.tmp 20) (.tmp 21) _ _ rfl _ _ rfl rfl _ _ (unhide HR _) ?_)
    go_ret
    refine ⟨_, rfl, ?_, ?_⟩
    · have hge := grownCap_ge w n 0 5
      have hle := grownCap_le_maxLen w n 0 5 (by unfold maxLen; omega)
      refine ⟨rfl, .inr ⟨w.heap.size, grownCap w n 0 5, _, rfl, Nat.le_refl _, heap_alloc_new _ _, Nat.zero_le _, hle, ?_, by simp [by8]⟩⟩
      simp only [Array.size_append, size_zeroCells]
      show n * 1 + (_ - n) * 1 = _ * 1
      omega
    · exact ⟨rfl, rfl, rfl, by simp, fun k hk _ => Below.heap_alloc w.drew _ k hk⟩

set_option maxRecDepth 100000 in
set_option maxHeartbeats 1000000 in
theorem concat_any (B b : Nat) (z o : Value) (lz lo : List UInt8) (w : World) (hb : b < w.heap.size) (h0 : w.cell? ⟨b, 0, none⟩ = some z) (h1 : w.cell? ⟨b, 1, none⟩ = some o) (hz : Bs w B z lz) (ho : Bs w B o lo) (hl : lz.length < 1000) (hl2 : lo.length < 1000) :
    Calls Tryz.prog 127 #[.slice (some ⟨b, 0, none⟩) 2 2] w fun e w' => ∃ v', e = .returned v' ∧ Bs w' w.heap.size v' (lz ++ lo) ∧ w.grownBy w' none := by
  obtain ⟨az, cz, rfl⟩ := hz.shape
  obtain ⟨ao, co, rfl⟩ := ho.shape
  have HZ := hide hz
  have HO := hide ho
  have H0 := hide h0
  have H1 := hide h1
  clear hz ho
  go_enter Tryz.func127, Tryz.ntmps127
  go_wp2_with fail
  refine wp_loop_rounds 3 ?_
  rw [rounds_succ]
  go_wp2_with fail
  rw [rounds_succ]
  go_wp2_with fail
  rw [rounds_succ]
  go_wp2_with fail
  have hn : ((lz.length : Int) + (lo.length : Int)) = ((lz.length + lo.length : Nat) : Int) := by omega
  rw [hn]
  refine (grow_any (lz.length + lo.length) _ (by omega)).mono ?_
  rintro e w1 ⟨u1, rfl, A1, G1⟩
  clear hn h0 h1
  have q0 : w1.cell? ⟨b, 0, none⟩ = some (.slice az lz.length cz) := G1.cell (unhide H0) (by simp)
  have q1 : w1.cell? ⟨b, 1, none⟩ = some (.slice ao lo.length co) := G1.cell (unhide H1) (by simp)
  have Z1 := hide (Bs.kept0 (unhide HZ) G1)
  have hsz := G1.size
  go_wp2_with fail
  refine wp_loop_rounds 3 ?_
  rw [rounds_succ]
  go_wp2_with (at_builtin; refine wp_appBs _ rfl (.tmp 31) (.tmp 32) rfl w.heap.size _ [] rfl A1 _ B lz rfl (unhide Z1) ?c1 hsz ?_)
  case c1 => simp only [List.length_nil]; omega
  intro u2 w2 A2
  have G2 := A2.fresh G1 A1
  have B2 := A2.own
  try rw [List.nil_append] at B2
  have q1 : w2.cell? ⟨b, 1, none⟩ = some (.slice ao lo.length co) := G2.cell (unhide H1) (by simp)
  have O2 := hide (Bs.kept0 (unhide HO) G2)
  have hsz2 := G2.size
  clear A1 A2 G1 q0 Z1 hsz
  go_wp2_with fail
  rw [rounds_succ]
  go_wp2_with (at_builtin; refine wp_appBs _ rfl (.tmp 31) (.tmp 32) rfl w.heap.size _ lz rfl B2 _ B lo rfl (unhide O2) ?c1 hsz2 ?_)
  case c1 => omega
  intro u3 w3 A3
  have G3 := A3.fresh G2 B2
  have B3 := A3.own
  clear A3 G2 B2 O2 hsz2
  go_wp2_with fail
  rw [rounds_succ]
  go_wp2_with fail
  go_ret
  exact ⟨_, rfl, B3, G3⟩
end Go.Proofs.YthlincikgdblfaaGreat

namespace Go.Proofs.YthlincikgdblfaaGreat
open Go.RowKit
set_option linter.unusedVariables false

/-- THE BITS IN MEMORY: block b holds the four fields; the two rows are apart. -/
structure Bit (w : World) (B b : Nat) (p a : Value) (r : Rot.Row) : Prop where
  c0 : w.cell? ⟨b, 0, none⟩ = some p
  c1 : w.cell? ⟨b, 1, none⟩ = some a
  c2 : w.cell? ⟨b, 2, none⟩ = some (.int .i64 (r.count : Int))
  c3 : w.cell? ⟨b, 3, none⟩ = some (.int .u16 (r.ones : Int))
  f0 : w.frozen? ⟨b, 0, none⟩ = false
  f1 : w.frozen? ⟨b, 1, none⟩ = false
  f2 : w.frozen? ⟨b, 2, none⟩ = false
  f3 : w.frozen? ⟨b, 3, none⟩ = false
  packed : Bs w B p r.packed
  ahead : Us w B a r.ahead
  apart : Apart p a
  pb : p.ownBlock ≠ some b
  ab : a.ownBlock ≠ some b
  lt : b < w.heap.size
  le : B ≤ b


theorem info16 : (Tryz.prog.info? 67).map (fun i => (i.zero, i.size, i.bytes)) = some (some (.int .u16 0), 1, 2) := by kernel_rfl
theorem by16_one (l : List Nat) : ∀ u ∈ by16 l, u.oneCell' = true := by
  intro u hu
  simp only [by16, List.mem_map] at hu
  obtain ⟨b, _, rfl⟩ := hu
  rfl
/-- APPEND OF ONE NUMBER, as one step of a region that draws. -/
theorem step_app16 {ops : Array Oper} {o : Oper} {a : Act} {w : World} {K : Act → World → Prop} {Q : Exit → Act → World → Prop} {E : Prop}
    (hg : o.guard = none) (s x : Operand) (hop : o.op = Op.call { callee := Callee.builtin Builtin.append, args := #[s, x], argTypes := #[66, 66] })
    (B : Nat) (v : Value) (d : List Nat) (hs : a.eval s = v) (W : World) (N : Nat) (hw : w = W.alloc (.cells #[.int .u16 (N : Int)] 67)) (hx : a.eval x = .slice (some ⟨W.heap.size, 0, none⟩) 1 1) (hown : Us W B v d)
    (hl : d.length < 1000000) (hB : B ≤ W.heap.size)
    (hK : ∀ g cap w', Us w' B (.slice (some ⟨g, 0, none⟩) (d.length + 1) cap) (d ++ [N]) → W.grownBy w' v.ownBlock → At W v (.slice (some ⟨g, 0, none⟩) (d.length + 1) cap) → K (a.put o.dst (.slice (some ⟨g, 0, none⟩) (d.length + 1) cap)) w') :
    if Region.wanted o (yielded ops a.tmps) = true then Oper.wp Tryz.prog o a w K Q else E := by
  have hwt : Region.wanted o (yielded ops a.tmps) = true := by simp [Region.wanted, hg]
  rw [if_pos hwt]
  subst hw
  obtain ⟨i0, hi, hz0, hz1, hz2⟩ := info_parts info16
  obtain ⟨v', w', hr, h2, h3, h4, h5⟩ := run_append_own_at (P := Tryz.prog) (W.alloc (.cells #[.int .u16 (N : Int)] 67)) B 66 o.type 67 i0 (.int .u16 0) 1 2 Tryz.underlying66 hi hz0 hz1 hz2 rfl (by decide) v d.length (by16 d) (World.ownsRow.alloc hown _) ⟨W.heap.size, 0, none⟩ 1 1 (by16 [N]) rfl (cell_one_new _ _ _) (by16_one [N]) (by unfold maxLen; omega) (by omega) (by simp; omega)
  obtain ⟨g, cap, rfl⟩ : ∃ g cap, v' = .slice (some ⟨g, 0, none⟩) (d.length + 1) cap := by
    rcases h2.2 with ⟨hv, hn⟩ | ⟨g, cap, _, hv, _⟩
    · omega
    · exact ⟨g, cap, hv⟩
  unfold Oper.wp
  simp [execOp, hop, resolve, invoke, builtin, hs, hx, hr, Result.andThen]
  refine hK g cap w' ?_ (grown_trans (World.grownBy_alloc W _ _) h3 (Or.inl rfl)) ?_
  · unfold Us
    rw [List.length_append]
    simpa [by16] using h2
  · rcases h5 with h5 | h5
    · exact Or.inl h5
    · exact Or.inr ⟨_, h5, by simp⟩

theorem Bs.frozen {w : World} {B g n cap : Nat} {l : List UInt8} (h : Bs w B (.slice (some ⟨g, 0, none⟩) n cap) l) (j : Nat) : w.frozen? ⟨g, j, none⟩ = false := by
  rcases h.form with ⟨e, _⟩ | ⟨g', cap', e, _⟩
  · simp at e
  · simp only [Value.slice.injEq, Option.some.injEq, Addr.mk.injEq, and_true] at e
    obtain ⟨rfl, rfl, rfl⟩ := e
    exact World.ownsRow.frozenAt h j
theorem grown_setCell (w : World) (b j : Nat) (v : Value) : w.grownBy (w.setCell ⟨b, j, none⟩ v) (some b) :=
  ⟨rfl, rfl, rfl, by simp, fun k _ hk => heap_setCell_other w ⟨b, j, none⟩ k v (fun e => hk (by simp [e]))⟩
theorem below_setCell (w : World) (B b j : Nat) (v : Value) (hb : B ≤ b) : Below B w (w.setCell ⟨b, j, none⟩ v) := (Below.refl B w).setCell hb v
theorem grown_of_below {w w' : World} (h : Below w.heap.size w w') : w.grownBy w' none := ⟨h.os, h.tape, h.output, h.size, fun k hk _ => h.block k hk⟩
theorem Apx.slice {w w' : World} {B : Nat} {v v' : Value} {l : List UInt8} (A : Apx w w' B v v' l) (h : 0 < l.length) : ∃ g cap, v' = .slice (some ⟨g, 0, none⟩) l.length cap := by
  rcases A.own.form with ⟨_, rfl⟩ | ⟨g, cap, hv, _⟩
  · simp at h
  · exact ⟨g, cap, hv⟩
theorem ne_of_at {w : World} {v v' : Value} {b : Nat} (h : v.ownBlock ≠ some b) (hat : At w v v') (hb : b < w.heap.size) : v'.ownBlock ≠ some b := by
  rcases hat with e | ⟨k, e, hk⟩
  · rw [e]; exact h
  · rw [e]; intro e2; cases e2; omega
theorem below_grown {w w1 : World} {B : Nat} {r : Option Nat} (g : w.grownBy w1 r) (hB : B ≤ w.heap.size) (hr : ∀ k, r = some k → B ≤ k) : Below B w w1 := (Below.refl _ _).grown g hB hr
theorem Bit.cells {w w1 : World} {B b : Nat} {p a : Value} {r : Rot.Row} (h : Bit w B b p a r) {row : Option Nat} (g : w.grownBy w1 row) (hne : row ≠ some b) :
    w1.cell? ⟨b, 0, none⟩ = some p ∧ w1.cell? ⟨b, 1, none⟩ = some a ∧ w1.cell? ⟨b, 2, none⟩ = some (.int .i64 (r.count : Int)) ∧ w1.cell? ⟨b, 3, none⟩ = some (.int .u16 (r.ones : Int)) ∧ w1.frozen? ⟨b, 0, none⟩ = false ∧ w1.frozen? ⟨b, 1, none⟩ = false ∧ w1.frozen? ⟨b, 2, none⟩ = false ∧ w1.frozen? ⟨b, 3, none⟩ = false := by
  have e := g.block b h.lt (fun e => hne e.symm)
  have c : ∀ j, w1.cell? ⟨b, j, none⟩ = w.cell? ⟨b, j, none⟩ := fun j => World.cell?_of_block (a := ⟨b, j, none⟩) e
  have f : ∀ j, w1.frozen? ⟨b, j, none⟩ = w.frozen? ⟨b, j, none⟩ := fun j => World.frozen?_of_block (a := ⟨b, j, none⟩) e
  refine ⟨?_, ?_, ?_, ?_, ?_, ?_, ?_, ?_⟩
  · rw [c, h.c0]
  · rw [c, h.c1]
  · rw [c, h.c2]
  · rw [c, h.c3]
  · rw [f, h.f0]
  · rw [f, h.f1]
  · rw [f, h.f2]
  · rw [f, h.f3]
theorem Bit.app0 {w w1 : World} {B b : Nat} {p a p' : Value} {r : Rot.Row} {l : List UInt8} (h : Bit w B b p a r) (A : Apx w w1 B p p' l) : Bit (w1.setCell ⟨b, 0, none⟩ p') B b p' a ⟨l, r.ahead, r.count, r.ones⟩ ∧ Below B w (w1.setCell ⟨b, 0, none⟩ p') := by
  obtain ⟨c0, c1, c2, c3, f0, f1, f2, f3⟩ := h.cells A.grown h.pb
  have hp' := ne_of_at h.pb A.at' h.lt
  have G := grown_setCell w1 b 0 p'
  have hlt : b < w1.heap.size := Nat.lt_of_lt_of_le h.lt A.size
  refine ⟨⟨World.cell?_setCell_same _ _ _ c0, ?_, ?_, ?_, ?_, ?_, ?_, ?_, ?_, ?_, ?_, hp', h.ab, by simpa using hlt, h.le⟩, ?_⟩
  · rw [World.cell?_setCell_other _ _ _ _ (by simp)]; exact c1
  · rw [World.cell?_setCell_other _ _ _ _ (by simp)]; exact c2
  · rw [World.cell?_setCell_other _ _ _ _ (by simp)]; exact c3
  · rw [World.frozen?_setCell]; exact f0
  · rw [World.frozen?_setCell]; exact f1
  · rw [World.frozen?_setCell]; exact f2
  · rw [World.frozen?_setCell]; exact f3
  · exact A.own.kept G (Or.inr hp')
  · exact World.ownsRow.kept (World.ownsRow.kept h.ahead A.grown h.apart.symm.kept) G (Or.inr h.ab)
  · exact h.apart.step A.at' (fun k hk => (World.ownsRow.lt h.ahead k hk).2)
  · exact (below_grown A.grown (Nat.le_trans h.le (Nat.le_of_lt h.lt)) (fun k hk => (h.packed.lt hk).1)).trans (below_setCell _ _ _ _ _ h.le)
theorem Bit.app1 {w w1 : World} {B b : Nat} {p a a' : Value} {r : Rot.Row} {d : List Nat} (h : Bit w B b p a r) (O : Us w1 B a' d) (g : w.grownBy w1 a.ownBlock) (hat : At w a a') : Bit (w1.setCell ⟨b, 1, none⟩ a') B b p a' ⟨r.packed, d, r.count, r.ones⟩ ∧ Below B w (w1.setCell ⟨b, 1, none⟩ a') := by
  obtain ⟨c0, c1, c2, c3, f0, f1, f2, f3⟩ := h.cells g h.ab
  have ha' := ne_of_at h.ab hat h.lt
  have G := grown_setCell w1 b 1 a'
  have hlt : b < w1.heap.size := Nat.lt_of_lt_of_le h.lt g.size
  refine ⟨⟨?_, World.cell?_setCell_same _ _ _ c1, ?_, ?_, ?_, ?_, ?_, ?_, ?_, ?_, ?_, h.pb, ha', by simpa using hlt, h.le⟩, ?_⟩
  · rw [World.cell?_setCell_other _ _ _ _ (by simp)]; exact c0
  · rw [World.cell?_setCell_other _ _ _ _ (by simp)]; exact c2
  · rw [World.cell?_setCell_other _ _ _ _ (by simp)]; exact c3
  · rw [World.frozen?_setCell]; exact f0
  · rw [World.frozen?_setCell]; exact f1
  · rw [World.frozen?_setCell]; exact f2
  · rw [World.frozen?_setCell]; exact f3
  · exact (h.packed.kept g h.apart.kept).kept G (Or.inr h.pb)
  · exact World.ownsRow.kept O G (Or.inr ha')
  · exact (h.apart.symm.step hat (fun k hk => (h.packed.lt hk).2)).symm
  · exact (below_grown g (Nat.le_trans h.le (Nat.le_of_lt h.lt)) (fun k hk => (World.ownsRow.lt h.ahead k hk).1)).trans (below_setCell _ _ _ _ _ h.le)
theorem Bit.put2 {w : World} {B b : Nat} {p a : Value} {r : Rot.Row} (h : Bit w B b p a r) (n : Nat) (N : Int) (hN : N = (n : Int)) : Bit (w.setCell ⟨b, 2, none⟩ (.int .i64 N)) B b p a ⟨r.packed, r.ahead, n, r.ones⟩ ∧ Below B w (w.setCell ⟨b, 2, none⟩ (.int .i64 N)) := by
  subst hN
  have G := grown_setCell w b 2 (.int .i64 (n : Int))
  refine ⟨⟨?_, ?_, World.cell?_setCell_same _ _ _ h.c2, ?_, ?_, ?_, ?_, ?_, h.packed.kept G (Or.inr h.pb), World.ownsRow.kept h.ahead G (Or.inr h.ab), h.apart, h.pb, h.ab, by simpa using h.lt, h.le⟩, below_setCell _ _ _ _ _ h.le⟩
  · rw [World.cell?_setCell_other _ _ _ _ (by simp)]; exact h.c0
  · rw [World.cell?_setCell_other _ _ _ _ (by simp)]; exact h.c1
  · rw [World.cell?_setCell_other _ _ _ _ (by simp)]; exact h.c3
  · rw [World.frozen?_setCell]; exact h.f0
  · rw [World.frozen?_setCell]; exact h.f1
  · rw [World.frozen?_setCell]; exact h.f2
  · rw [World.frozen?_setCell]; exact h.f3
theorem Bit.put3 {w : World} {B b : Nat} {p a : Value} {r : Rot.Row} (h : Bit w B b p a r) (n : Nat) (N : Int) (hN : N = (n : Int)) : Bit (w.setCell ⟨b, 3, none⟩ (.int .u16 N)) B b p a ⟨r.packed, r.ahead, r.count, n⟩ ∧ Below B w (w.setCell ⟨b, 3, none⟩ (.int .u16 N)) := by
  subst hN
  have G := grown_setCell w b 3 (.int .u16 (n : Int))
  refine ⟨⟨?_, ?_, ?_, World.cell?_setCell_same _ _ _ h.c3, ?_, ?_, ?_, ?_, h.packed.kept G (Or.inr h.pb), World.ownsRow.kept h.ahead G (Or.inr h.ab), h.apart, h.pb, h.ab, by simpa using h.lt, h.le⟩, below_setCell _ _ _ _ _ h.le⟩
  · rw [World.cell?_setCell_other _ _ _ _ (by simp)]; exact h.c0
  · rw [World.cell?_setCell_other _ _ _ _ (by simp)]; exact h.c1
  · rw [World.cell?_setCell_other _ _ _ _ (by simp)]; exact h.c2
  · rw [World.frozen?_setCell]; exact h.f0
  · rw [World.frozen?_setCell]; exact h.f1
  · rw [World.frozen?_setCell]; exact h.f2
  · rw [World.frozen?_setCell]; exact h.f3
theorem Bit.drewN {w : World} {B b : Nat} {p a : Value} {r : Rot.Row} (h : Bit w B b p a r) (k : Nat) : Bit (w.drewN k) B b p a r := ⟨h.c0, h.c1, h.c2, h.c3, h.f0, h.f1, h.f2, h.f3, h.packed, h.ahead, h.apart, h.pb, h.ab, h.lt, h.le⟩
theorem Bit.drew {w : World} {B b : Nat} {p a : Value} {r : Rot.Row} (h : Bit w B b p a r) : Bit w.drew B b p a r := h.drewN 1
theorem by8_set (l : List UInt8) (j : Nat) (c : UInt8) : by8 (l.set j c) = (by8 l).set j (.int .u8 (c.toNat : Int)) := by simp [by8, List.map_set]
theorem Bit.putP {w : World} {B b g cap : Nat} {a : Value} {r : Rot.Row} (h : Bit w B b (.slice (some ⟨g, 0, none⟩) r.packed.length cap) a r) (j : Nat) (c : UInt8) (N : Int) (hN : N = (c.toNat : Int)) : Bit (w.setCell ⟨g, j, none⟩ (.int .u8 N)) B b (.slice (some ⟨g, 0, none⟩) r.packed.length cap) a ⟨r.packed.set j c, r.ahead, r.count, r.ones⟩ ∧ Below B w (w.setCell ⟨g, j, none⟩ (.int .u8 N)) := by
  subst hN
  have hgb : g ≠ b := fun e => h.pb (by simp [Value.ownBlock, e])
  have S := World.ownsRow.stored h.packed j (.int .u8 (c.toNat : Int))
  have hl : r.packed.length = (r.packed.set j c).length := by simp
  refine ⟨⟨?_, ?_, ?_, ?_, ?_, ?_, ?_, ?_, ?_, World.ownsRow.kept h.ahead S.2 (by
      have := h.apart.symm.kept
      simpa [Value.ownBlock] using this), h.apart, h.pb, h.ab, by simpa using h.lt, h.le⟩, below_setCell _ _ _ _ _ (h.packed.lt rfl).1⟩
  · rw [World.cell?_setCell_other _ _ _ _ (by intro e; cases e; exact hgb rfl)]; exact h.c0
  · rw [World.cell?_setCell_other _ _ _ _ (by intro e; cases e; exact hgb rfl)]; exact h.c1
  · rw [World.cell?_setCell_other _ _ _ _ (by intro e; cases e; exact hgb rfl)]; exact h.c2
  · rw [World.cell?_setCell_other _ _ _ _ (by intro e; cases e; exact hgb rfl)]; exact h.c3
  · rw [World.frozen?_setCell]; exact h.f0
  · rw [World.frozen?_setCell]; exact h.f1
  · rw [World.frozen?_setCell]; exact h.f2
  · rw [World.frozen?_setCell]; exact h.f3
  · unfold Bs
    rw [by8_set, ← hl]
    exact S.1
end Go.Proofs.YthlincikgdblfaaGreat
