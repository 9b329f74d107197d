import Derived.Test.YthlincikgdblfaaGreatV01
import Derived.Test.YthlincikgdblfaaGreatV02
import Derived.Test.YthlincikgdblfaaGreatV04
import Derived.Deep.RegionLaw
namespace Go.Proofs.YthlincikgdblfaaGreat
open Go.RowKit
set_option linter.unusedVariables false

/-- APPEND OF BYTES, as one step of a region that draws. -/
theorem step_appBs {ops : Array Oper} {o : Oper} {a : Act} {w : World} {K : Act → World → Prop} {Q : Exit → Act → World → Prop} {E : Prop}
    (hg : o.guard = none) (s x : Operand) (hop : o.op = Op.call { callee := Callee.builtin Builtin.append, args := #[s, x], argTypes := #[45, 45] })
    (B : Nat) (v : Value) (l : List UInt8) (hs : a.eval s = v) {W : World} (hw : w = W) (hown : Bs W B v l) (v2 : Value) (B2 : Nat) (m : List UInt8) (hx : a.eval x = v2) (hm : Bs W B2 v2 m)
    (hl : l.length + m.length < 1000000) (hB : B ≤ W.heap.size)
    (hK : ∀ v' w', Apx W w' B v v' (l ++ m) → K (a.put o.dst v') w') :
    if Region.wanted o (yielded ops a.tmps) = true then Oper.wp Tryz.prog o a w K Q else E := by
  have hwt : Region.wanted o (yielded ops a.tmps) = true := by simp [Region.wanted, hg]
  rw [if_pos hwt]
  subst hw
  obtain ⟨i0, hi, hz0, hz1, hz2⟩ := info_parts info8
  have hml : (by8 m).length = m.length * 1 := by rw [by8_length]; omega
  rcases hm.form with ⟨rfl, rfl⟩ | ⟨g, cap, rfl, hg1, hg2, hg3⟩
  · have hrun := run_append_owned_none (P := Tryz.prog) (w := w) B 45 o.type 5 i0 1 Tryz.underlying45 hi v l.length (by8 l) hown
    unfold Oper.wp
    simp [execOp, hop, resolve, invoke, builtin, hs, hx, hrun, Result.andThen]
    refine hK v w ⟨?_, World.grownBy.refl _ _, At.refl _ _⟩
    rw [List.append_nil]
    exact hown
  · obtain ⟨v', w', hr, h1, h2, h3, h4⟩ := run_append_own_at (P := Tryz.prog) w B 45 o.type 5 i0 (.int .u8 0) 1 1 Tryz.underlying45 hi hz0 hz1 hz2 rfl (by decide) v l.length (by8 l) hown ⟨g, 0, none⟩ m.length cap (by8 m) hml (World.ownsRow.cells hm (g := g) rfl) (by8_one m) (by unfold maxLen; omega) (by omega) hB
    unfold Oper.wp
    simp [execOp, hop, resolve, invoke, builtin, hs, hx, hr, Result.andThen]
    refine hK v' w' ⟨?_, h2, ?_⟩
    · unfold Bs; rw [by8_append, List.length_append]; exact h1
    · rcases h4 with h4 | h4
      · exact Or.inl h4
      · exact Or.inr ⟨_, h4, Nat.le_refl _⟩

set_option maxRecDepth 100000 in
set_option maxHeartbeats 1000000 in
/-- AppendTo, of bits of the call's own (from block B on), behind bytes that lie below or apart. -/
theorem appendTo_any (B C b : Nat) (p a v : Value) (r : Rot.Row) (l : List UInt8) (w : World) (h : Bit w B b p a r) (hC : C ≤ w.heap.size) (hv : Bs w C v l) (hpv : Apart p v) (hav : Apart a v) (hvb : v.ownBlock ≠ some b)
    (hl : l.length + r.packed.length + 2 * r.ahead.length < 100000) (hd : ∀ x ∈ r.ahead, x < 65536) :
    Calls Tryz.prog 129 #[.pointer (some ⟨b, 0, none⟩), v] w fun e w' => ∃ v', e = .returned v' ∧ Apx w w' C v v' (l ++ r.bytes) := by
  have g0 := h.c0
  have g1 := h.c1
  have H := hide h
  clear h
  go_enter Tryz.func129, Tryz.ntmps129
  go_wp2_with fail
  have hlt := (unhide H).lt
  have hll : l.length + r.packed.length < 1000000 := by omega
  have Hd := hide hd
  clear hd
  have P0 := (unhide H).drew.packed
  have hll2 : ∀ x : List UInt8, x.length = l.length + r.packed.length → x.length + 2 * r.ahead.length < 900000 := by intro x hx; omega
  go_region_law (first
    | (refine step_appBs rfl (.tmp 5) (.tmp 9) rfl C _ l rfl (W := w.drew) rfl hv _ B r.packed rfl P0 hll hC ?_; intro v1 w1 A1; obtain ⟨d0, d1, _, _, _, _, _, _⟩ := (unhide H).drew.cells A1.grown hvb; have U1 : Us w1 B a r.ahead := World.ownsRow.kept (unhide H).drew.ahead A1.grown hav.kept; have AP1 : Apart a v1 := (hav.symm.step A1.at' (fun k hk => (World.ownsRow.lt (unhide H).ahead k hk).2)).symm)
    | (go_simp; refine (appendAll_any C B _ _ _ r.ahead _ (Nat.le_trans hC A1.size) A1.own U1 AP1 (hll2 _ (by simp)) (unhide Hd)).mono ?_; rintro e w2 ⟨v2, rfl, A2⟩))
  all_goals
    go_wp2
    go_ret
    refine ⟨_, rfl, ?_⟩
    have A3 := A1.trans A2
    rw [List.append_assoc] at A3
    exact ⟨A3.own, ⟨A3.grown.os, A3.grown.tape, A3.grown.output, A3.grown.size, A3.grown.block⟩, A3.at'⟩
end Go.Proofs.YthlincikgdblfaaGreat

namespace Go.Proofs.YthlincikgdblfaaGreat
open Go.RowKit
set_option linter.unusedVariables false

theorem rowOf_snoc (l : List Bool) (b : Bool) : Rot.rowOf (l ++ [b]) = (Rot.rowOf l).add b := by
  unfold Rot.rowOf
  rw [List.foldl_append]
  rfl
theorem fold_fits (l : List Bool) : ∀ r : Rot.Row, Fits r → (∀ x ∈ r.ahead, x ≤ r.count) → Fits (l.foldl Rot.Row.add r) ∧ (l.foldl Rot.Row.add r).count = r.count + l.length ∧ ∀ x ∈ (l.foldl Rot.Row.add r).ahead, x ≤ (l.foldl Rot.Row.add r).count := by
  induction l with
  | nil => intro r h h2; exact ⟨h, rfl, h2⟩
  | cons b l ih =>
    intro r h h2
    have h3 : ∀ x ∈ (r.add b).ahead, x ≤ (r.add b).count := by
      intro x hx
      have ho := h.ones
      simp only [Rot.Row.add, Rot.addAhead] at hx ⊢
      by_cases h16 : r.count % 16 = 0
      · rw [if_pos h16] at hx
        rcases List.mem_append.1 hx with hx | hx
        · have := h2 x hx; omega
        · simp at hx; omega
      · rw [if_neg h16] at hx
        have := h2 x hx; omega
    obtain ⟨f1, f2, f3⟩ := ih (r.add b) (h.add b) h3
    refine ⟨f1, ?_, f3⟩
    rw [List.foldl_cons, f2]
    simp [Rot.Row.add]
    omega
theorem none_fits : Fits Rot.Row.none := ⟨Nat.le_refl _, rfl, rfl⟩
theorem row_fits (l : List Bool) : Fits (Rot.rowOf l) := (fold_fits l _ none_fits (by intro x hx; cases hx)).1
theorem row_count (l : List Bool) : (Rot.rowOf l).count = l.length := by
  have := (fold_fits l _ none_fits (by intro x hx; cases hx)).2.1
  rw [show Rot.Row.none.count = 0 from rfl, Nat.zero_add] at this
  exact this
theorem row_ahead (l : List Bool) : ∀ x ∈ (Rot.rowOf l).ahead, x ≤ l.length := by
  have := (fold_fits l _ none_fits (by intro x hx; cases hx)).2.2
  intro x hx
  have h := this x hx
  rw [← row_count]
  exact h

theorem Bit.start (w : World) : Bit (w.alloc (.cells #[.slice none 0 0, .slice none 0 0, .int .i64 0, .int .u16 0] 69)) w.heap.size w.heap.size (.slice none 0 0) (.slice none 0 0) Rot.Row.none := by
  refine ⟨?_, ?_, ?_, ?_, ?_, ?_, ?_, ?_, Bs.nil _ _, World.ownsRow_nil _ _ _ _, Apart.nil _, by simp [Value.ownBlock], by simp [Value.ownBlock], by simp, Nat.le_refl _⟩
  all_goals go_simp
  all_goals rfl
theorem Apx.after {w wr w' : World} {C : Nat} {v v' : Value} {l : List UInt8} (G : w.grownBy wr none) (A : Apx wr w' C v v' l) : Apx w w' C v v' l :=
  ⟨A.own, grown_trans (grown_weak G _) A.grown (Or.inl rfl), by
    rcases A.at' with h | ⟨k, h, hk⟩
    · exact Or.inl h
    · exact Or.inr ⟨k, h, Nat.le_trans G.size hk⟩⟩
theorem apart_old {w : World} {B : Nat} {p v : Value} (hp : ∀ k, p.ownBlock = some k → w.heap.size ≤ k) (hv : ∀ k, v.ownBlock = some k → k < w.heap.size) : Apart p v := by
  intro k a b
  have := hp k a
  have := hv k b
  omega
theorem Below.alloc0 {w : World} (o : Obj) : Below w.heap.size w (w.alloc o) := (Below.refl _ _).alloc (Nat.le_refl _) o

/-- The bits of a row, laid behind bytes. -/
theorem appendTo_row (C : Nat) (v : Value) (l : List UInt8) (bs : List Bool) (p a : Value) (w wr : World) (hC : C ≤ w.heap.size) (hv : Bs w C v l) (h : Bit wr w.heap.size w.heap.size p a (Rot.rowOf bs)) (hW : Below w.heap.size w wr) (hb : bs.length < 1000) (hl : l.length < 50000) :
    Calls Tryz.prog 129 #[.pointer (some ⟨w.heap.size, 0, none⟩), v] wr fun e w' => ∃ v', e = .returned v' ∧ Apx w w' C v v' (l ++ Rot.bitsOf bs) := by
  have G := grown_of_below hW
  have hvl : ∀ k, v.ownBlock = some k → k < w.heap.size := fun k hk => (hv.lt hk).2
  have f := row_fits bs
  have hc := row_count bs
  refine (appendTo_any w.heap.size C w.heap.size p a v (Rot.rowOf bs) l wr h (Nat.le_trans hC G.size) (hv.kept0 G) (apart_old (B := 0) (fun k hk => (h.packed.lt hk).1) hvl) (apart_old (B := 0) (fun k hk => (World.ownsRow.lt h.ahead k hk).1) hvl) (fun e => by have := hvl _ e; omega) ?_ ?_).mono ?_
  · rw [f.packed, f.ahead, hc]; omega
  · intro x hx
    have := row_ahead bs x hx
    omega
  · rintro e w' ⟨v', he, A⟩
    exact ⟨v', he, Apx.after G A⟩

theorem map_snoc {α : Type} (f : α → Bool) (d : List α) (k : Nat) (hk : k < d.length) : (d.take (k + 1)).map f = (d.take k).map f ++ [f (d[k]'hk)] := by
  rw [List.take_succ_eq_append_getElem hk, List.map_append]
  rfl

set_option maxRecDepth 100000 in
set_option maxHeartbeats 1000000 in
theorem marks_any (B : Nat) (g cap : Nat) (d : List Nat) (r : Nat) (w : World) (h : Is w B (.slice (some ⟨g, 0, none⟩) d.length cap) d) (hd : ∀ x ∈ d, x < 1000) (hdl : d.length < 1000) (hr1 : 1 ≤ r) (hr2 : r ≤ 8) :
    Calls Tryz.prog 95 #[.slice (some ⟨g, 0, none⟩) d.length cap, .int .i64 r] w fun e w' => ∃ v', e = .returned v' ∧ Bs w' w.heap.size v' (Rot.marksOf d r) ∧ w.grownBy w' none := by
  have HD := hide hd
  have HU := hide h
  have B0 := hide (Bit.start w)
  clear hd h
  go_enter Tryz.func95, Tryz.ntmps95
  go_wp2_with fail
  go_loopw [10] (fun i wr => ∃ k : Nat, k ≤ d.length ∧ i = .int .i64 k ∧ ∃ p a, Bit wr w.heap.size w.heap.size p a (Rot.rowOf ((d.take k).map (Rot.isMarked r))) ∧ Below w.heap.size w wr) (fun i _ => d.length - (intOf i).toNat)
  case atStart => exact ⟨0, Nat.zero_le _, rfl, _, _, unhide B0, Below.alloc0 _⟩
  case round =>
    obtain ⟨k, hk, rfl, p, a, T, W⟩ := hrel
    clear B0
    by_cases hlt : k < d.length
    · have hck := Is.cell (ownsRow_kept0 (unhide HU) (grown_of_below W)) k hlt
      have hx : d[k]'hlt < 1000 := unhide HD _ (List.getElem_mem hlt)
      have HF := hide (map_snoc (Rot.isMarked r) d k hlt)
      have hcnt : (Rot.rowOf ((d.take k).map (Rot.isMarked r))).count < 1000 := by rw [row_count, List.length_map, List.length_take]; omega
      have hfit := row_fits ((d.take k).map (Rot.isMarked r))
      have HT := hide T
      have HW := hide W
      clear T W
      go_wp2_with fail
      refine (isMarked_any _ _ _ (by omega) hr1 hr2).mono ?_
      rintro e w1 ⟨rfl, hw1⟩
      subst hw1
      go_wp2_with fail
      refine (add_any w.heap.size w.heap.size p a _ (Rot.isMarked r (d[k]'hlt)) _ (unhide HT) hcnt hfit).mono ?_
      rintro e w2 ⟨rfl, p', a', T2, W2⟩
      rw [← rowOf_snoc, ← unhide HF] at T2
      have HT2 := hide T2
      have HW2 := hide ((unhide HW).trans W2)
      clear T2 W2 hck hcnt hfit
      go_wp2_with fail
      go_roundw
      case rel => exact ⟨k + 1, by omega, by go_num, p', a', unhide HT2, unhide HW2⟩
      case measure => simp [intOf]; omega
    · have hk' : k = d.length := by omega
      subst hk'
      rw [List.take_length] at T
      have hcon := appendTo_row w.heap.size (.slice none 0 0) [] _ p a w wr (Nat.le_refl _) (Bs.nil _ _) T W (by simpa using hdl) (by simp)
      go_wp2_with fail
      refine hcon.mono ?_
      rintro e w2 ⟨v', rfl, A⟩
      clear hcon
      go_wp2_with fail
      go_ret
      refine ⟨_, rfl, ?_, ?_⟩
      · have := A.own
        simpa [Rot.marksOf] using this
      · have := A.grown
        simpa [Value.ownBlock] using this

set_option maxRecDepth 100000 in
set_option maxHeartbeats 1000000 in
theorem appendBits_any (B C : Nat) (v u : Value) (l col : List UInt8) (m : UInt8) (w : World) (hC : C ≤ w.heap.size) (hv : Bs w C v l) (hu : Bs w B u col) (hcl : col.length < 1000) (hl : l.length < 50000) :
    Calls Tryz.prog 126 #[v, u, .int .u8 m.toNat] w fun e w' => ∃ v', e = .returned v' ∧ Apx w w' C v v' (l ++ Rot.bitsOf (col.map fun c => !(c &&& m == 0))) := by
  have B0 := hide (Bit.start w)
  have HV := hide hv
  rcases hu.form with ⟨rfl, rfl⟩ | ⟨g, cap, rfl, hg1, hg2, hg3⟩
  · clear hu hv
    go_enter Tryz.func126, Tryz.ntmps126
    go_wp2_with fail
    refine wp_loop_rounds 1 ?_
    rw [rounds_succ]
    have hcon := appendTo_row C v l [] _ _ w _ hC (unhide HV) (unhide B0) (Below.alloc0 _) (by simp) hl
    go_wp2_with fail
    refine hcon.mono ?_
    rintro e w2 ⟨v', rfl, A⟩
    clear hcon
    go_wp2_with fail
    go_ret
    exact ⟨_, rfl, A⟩
  · have HU := hide hu
    clear hu hv
    go_enter Tryz.func126, Tryz.ntmps126
    go_wp2_with fail
    go_loopw [12] (fun i wr => ∃ k : Nat, k ≤ col.length ∧ i = .int .i64 k ∧ ∃ p a, Bit wr w.heap.size w.heap.size p a (Rot.rowOf ((col.take k).map fun c => !(c &&& m == 0))) ∧ Below w.heap.size w wr) (fun i _ => col.length - (intOf i).toNat)
    case atStart => exact ⟨0, Nat.zero_le _, rfl, _, _, unhide B0, Below.alloc0 _⟩
    case round =>
      obtain ⟨k, hk, rfl, p, a, T, W⟩ := hrel
      clear B0
      by_cases hlt : k < col.length
      · have hck := Bs.cell (Bs.kept0 (unhide HU) (grown_of_below W)) k hlt
        have HF := hide (map_snoc (fun c : UInt8 => !(c &&& m == 0)) col k hlt)
        have hcnt : (Rot.rowOf ((col.take k).map fun c => !(c &&& m == 0))).count < 1000 := by rw [row_count, List.length_map, List.length_take]; omega
        have hfit := row_fits ((col.take k).map fun c => !(c &&& m == 0))
        have HT := hide T
        have HW := hide W
        clear T W
        generalize hcc : col[k]'hlt = c at hck HF
        clear hcc
        have hbit : (bits BinOp.and IntKind.u8 (c.toNat : Int) (m.toNat : Int) != 0) = !(c &&& m == 0) := by
          rw [and8]
          cases h0 : (c &&& m == 0) with
          | true =>
            have : c &&& m = 0 := by simpa using h0
            rw [this]; rfl
          | false =>
            have h1 : ¬ c &&& m = 0 := by simpa using h0
            have h2 : ¬ (c &&& m).toNat = 0 := fun e => h1 (UInt8.toNat_inj.1 e)
            show ((((c &&& m).toNat : Nat) : Int) != 0) = true
            rw [bne_iff_ne]
            omega
        have HBIT := hide hbit
        clear hbit
        go_wp2_with fail
        rw [unhide HBIT]
        refine (add_any w.heap.size w.heap.size p a _ (!(c &&& m == 0)) _ (unhide HT) hcnt hfit).mono ?_
        rintro e w2 ⟨rfl, p', a', T2, W2⟩
        rw [← rowOf_snoc, ← unhide HF] at T2
        have HT2 := hide T2
        have HW2 := hide ((unhide HW).trans W2)
        clear T2 W2 hck hcnt hfit
        go_wp2_with fail
        go_roundw
        case rel => exact ⟨k + 1, by omega, by go_num, p', a', unhide HT2, unhide HW2⟩
        case measure => simp [intOf]; omega
      · have hk' : k = col.length := by omega
        subst hk'
        rw [List.take_length] at T
        have hcon := appendTo_row C v l _ p a w wr hC (unhide HV) T W (by simpa using hcl) hl
        go_wp2_with fail
        refine hcon.mono ?_
        rintro e w2 ⟨v', rfl, A⟩
        clear hcon
        go_wp2_with fail
        go_ret
        exact ⟨_, rfl, A⟩
end Go.Proofs.YthlincikgdblfaaGreat

namespace Go.Proofs.YthlincikgdblfaaGreat
open Go.RowKit
set_option linter.unusedVariables false

theorem idxFrom_nat (d : List Nat) : ∀ i : Nat, 0 ∈ d → Lib.idxFrom (d.map fun n : Nat => (n : Int)) 0 i = ((i + d.idxOf 0 : Nat) : Int) := by
  induction d with
  | nil => intro i h; cases h
  | cons a d ih =>
    intro i h
    rw [List.map_cons, List.idxOf_cons]
    by_cases ha : a = 0
    · subst ha; simp [Lib.idxFrom]
    · have h' : 0 ∈ d := by
        rcases List.mem_cons.1 h with e | e
        · exact absurd e.symm ha
        · exact e
      have hz : ¬ (a : Int) = 0 := by omega
      have hb : (a == 0) = false := by simp [ha]
      simp only [Lib.idxFrom, hz, if_false, hb, cond_false]
      rw [ih (i + 1) h']
      omega
theorem idxOf_nat (d : List Nat) (h : 0 ∈ d) : Lib.idxOf (d.map fun n : Nat => (n : Int)) 0 = (d.idxOf 0 : Int) := by
  unfold Lib.idxOf
  rw [idxFrom_nat d 0 h, Nat.zero_add]

set_option maxRecDepth 100000 in
set_option maxHeartbeats 1000000 in
theorem last_any (B : Nat) (g cap : Nat) (d : List Nat) (w : World) (h : Is w B (.slice (some ⟨g, 0, none⟩) d.length cap) d) (h0 : 0 ∈ d) (hdl : d.length < 1000) :
    Calls Tryz.prog 91 #[.slice (some ⟨g, 0, none⟩) d.length cap] w fun e w' => ∃ v', e = .returned v' ∧ Bs w' w.heap.size v' (Rot.lastOf d) ∧ w.grownBy w' none := by
  have hcon := Tryz.slices_Index_int g 0 d.length cap (d.map fun n : Nat => (n : Int)) 0 w (by simp) (by omega) (by
    intro j hj
    have hj' : j < d.length := by simpa using hj
    rw [Nat.zero_add, Is.cell h j hj']
    simp [hj'])
  rw [List.take_of_length_le (by simp), idxOf_nat d h0] at hcon
  have hi : d.idxOf 0 < d.length := List.idxOf_lt_length_of_mem h0
  clear h
  unfold Rot.lastOf
  generalize d.idxOf 0 = k at hcon hi ⊢
  go_enter Tryz.func91, Tryz.ntmps91
  go_wp2_with fail
  refine hcon.mono ?_
  rintro e w1 ⟨rfl, hw⟩
  subst hw
  clear hcon
  go_wp2_with fail
  refine (app16_any w1.heap.size (.slice none 0 0) [] k _ (Nat.le_refl _) (Bs.nil _ _) (by simp) (by omega)).mono ?_
  rintro e w2 ⟨v', rfl, A⟩
  go_wp2_with fail
  go_ret
  exact ⟨_, rfl, by simpa using A.own, by simpa [Value.ownBlock] using A.grown⟩

theorem zeros_len (m : UInt8) (l : List UInt8) : (Rot.zerosOf m l).length ≤ l.length := List.length_filter_le _ _
theorem ones_len (m : UInt8) (l : List UInt8) : (Rot.onesOf m l).length ≤ l.length := List.length_filter_le _ _
theorem bits_len (l : List Bool) : (Rot.bitsOf l).length = (l.length + 7) / 8 + 2 * ((l.length + 15) / 16) := by
  have f := row_fits l
  have c := row_count l
  unfold Rot.bitsOf Rot.Row.bytes
  rw [List.length_append, flat_len, f.packed, f.ahead, c]
theorem next_len (m : UInt8) (l : List UInt8) : (Rot.nextOf m l).length = l.length := by
  unfold Rot.nextOf Rot.zerosOf Rot.onesOf
  rw [List.length_append]
  induction l with
  | nil => rfl
  | cons a l ih =>
    rw [List.filter_cons, List.filter_cons]
    cases h : (a &&& m == 0) <;> simp <;> omega
theorem level_len (m : UInt8) (l : List UInt8) : (Rot.levelOf m l).length = 2 + (l.length + 7) / 8 + 2 * ((l.length + 15) / 16) := by
  unfold Rot.levelOf
  rw [List.length_append, bits_len]
  simp [Rot.le16]
  omega
theorem tree_len (col : List UInt8) (k : Nat) : (Rot.treeTo col k).2.length = col.length ∧ (Rot.treeTo col k).1.length = k * (2 + (col.length + 7) / 8 + 2 * ((col.length + 15) / 16)) := by
  induction k with
  | zero => simp [Rot.treeTo]
  | succ k ih =>
    simp only [Rot.treeTo]
    rw [next_len, List.length_append, level_len, ih.1, ih.2]
    exact ⟨rfl, (Nat.succ_mul _ _).symm⟩

set_option maxRecDepth 100000 in
set_option maxHeartbeats 1000000 in
theorem tree_any (B : Nat) (v : Value) (col : List UInt8) (w : World) (h : Bs w B v col) (hB : B ≤ w.heap.size) (hl : col.length ≤ 250) :
    Calls Tryz.prog 92 #[v] w fun e w' => ∃ v', e = .returned v' ∧ Bs w' w.heap.size v' (Rot.treeOf col) ∧ w.grownBy w' none := by
  go_enter Tryz.func92, Tryz.ntmps92
  go_wp2_with fail
  go_loopw [0, 3, 8] (fun u o i wr => ∃ k : Nat, k ≤ 8 ∧ i = .int .i64 k ∧ Bs wr B u (Rot.treeTo col k).2 ∧ Bs wr w.heap.size o (Rot.treeTo col k).1 ∧ Apart u o ∧ w.grownBy wr none) (fun _ _ i _ => 8 - (intOf i).toNat)
  case atStart => exact ⟨0, Nat.zero_le _, rfl, h, Bs.nil _ _, (Apart.nil _).symm, World.grownBy.refl _ _⟩
  case round =>
    obtain ⟨k, hk, rfl, U, O, AUO, G⟩ := hrel
    clear h
    obtain ⟨l1, l2⟩ := tree_len col k
    by_cases hlt : k < 8
    · have ht1 : (Rot.treeTo col k).1.length < 40000 := by
        rw [l2]
        have hc : 2 + (col.length + 7) / 8 + 2 * ((col.length + 15) / 16) ≤ 100 := by omega
        exact Nat.lt_of_le_of_lt (Nat.mul_le_mul (by omega : k ≤ 8) hc) (by decide)
      have ht2 : (Rot.treeTo col k).2.length ≤ 250 := by rw [l1]; exact hl
      have HN : Hid (Rot.treeTo col (k + 1) = ((Rot.treeTo col k).1 ++ Rot.levelOf (UInt8.ofNat (2 ^ (7 - k))) (Rot.treeTo col k).2, Rot.nextOf (UInt8.ofNat (2 ^ (7 - k))) (Rot.treeTo col k).2)) := rfl
      generalize (Rot.treeTo col k).1 = T at O ht1 HN
      generalize (Rot.treeTo col k).2 = cc at U ht2 HN
      clear l1 l2
      have hsz := G.size
      go_wp2_with fail
      rw [← pow8 (7 - k)]
      generalize UInt8.ofNat (2 ^ (7 - k)) = m at HN ⊢
      refine (split_any B _ cc m _ U (by omega)).mono ?_
      rintro e w1 ⟨z, o, rfl, Z, O1, AP, G1⟩
      obtain ⟨az, cz, rfl⟩ := Z.shape
      obtain ⟨ao, co, rfl⟩ := O1.shape
      have hzl := zeros_len m cc
      have hol := ones_len m cc
      have E : ∀ o0, Bs wr w.heap.size o0 T → Bs w1 w.heap.size o0 T := fun _ h => h.kept0 G1
      have O' := O.kept0 G1
      have U1 := U.kept0 G1
      have ApZ := apart_old (w := wr) (B := 0) (fun k hk => (Z.lt hk).1) (fun k hk => (O.lt hk).2)
      have ApO := apart_old (w := wr) (B := 0) (fun k hk => (O1.lt hk).1) (fun k hk => (O.lt hk).2)
      have GG1 := grown_trans G G1 (Or.inl rfl)
      have hsz1 := GG1.size
      have HZ := hide Z
      have HO1 := hide O1
      have HU1 := hide U1
      have HA := hide AUO
      have HApZ := hide ApZ
      have HApO := hide ApO
      clear U O Z O1 U1 E AUO ApZ ApO G G1
      go_wp2_with fail
      refine (app16_any w.heap.size _ T (Rot.zerosOf m cc).length _ hsz1 O' (by omega) (by omega)).mono ?_
      rintro e w2 ⟨o1, rfl, A2⟩
      have G2 := A2.fresh GG1 O'
      have U2 := (unhide HU1).kept A2.grown (unhide HA).kept
      have HZ2 := hide ((unhide HZ).kept A2.grown (unhide HApZ).kept)
      have HO2 := hide ((unhide HO1).kept A2.grown (unhide HApO).kept)
      have HApZ2 := hide ((unhide HApZ).symm.step A2.at' (fun k hk => ((unhide HZ).lt hk).2)).symm
      have HApO2 := hide ((unhide HApO).symm.step A2.at' (fun k hk => ((unhide HO1).lt hk).2)).symm
      have A2o := A2.own
      have hsz2 := G2.size
      clear HZ HO1 HU1 HA HApZ HApO A2 O' GG1
      go_wp2_with fail
      refine (appendBits_any B w.heap.size _ _ (T ++ Rot.le16 (Rot.zerosOf m cc).length) cc m _ hsz2 A2o U2 (by omega) (by rw [List.length_append]; simp [Rot.le16]; omega)).mono ?_
      rintro e w3 ⟨o2, rfl, A3⟩
      have G3 := A3.fresh G2 A2o
      have Z3 := (unhide HZ2).kept A3.grown (unhide HApZ2).symm.symm.kept
      have O3 := (unhide HO2).kept A3.grown (unhide HApO2).symm.symm.kept
      have A3o := A3.own
      clear HZ2 HO2 HApZ2 HApO2 A2o U2 G2 A3
      go_wp2_with fail
      refine (concat_any wr.heap.size w3.heap.size _ _ _ _ _ (by simp) (by go_simp) (by go_simp) (Z3.alloc _) (O3.alloc _) (by omega) (by omega)).mono ?_
      rintro e w4 ⟨u', rfl, U4, G4⟩
      have HU4 := hide U4
      have HO4 := hide ((A3o.alloc _).kept0 G4)
      have HG4 := hide (grown_trans (grown_trans G3 (World.grownBy_alloc w3 _ none) (Or.inl rfl)) G4 (Or.inl rfl))
      have HAP := hide (apart_old (w := w3) (B := 0) (fun k hk => Nat.le_trans (by simp) (U4.lt hk).1) (fun k hk => (A3o.lt hk).2))
      have hsz3 := G3.size
      clear U4 G4 A3o Z3 O3 G3
      go_wp2_with fail
      go_roundw
      case rel =>
        refine ⟨k + 1, by omega, by go_num, ?_, ?_, unhide HAP, unhide HG4⟩
        · rw [unhide HN]
          exact (unhide HU4).mono (by simp; omega)
        · rw [unhide HN]
          have := unhide HO4
          simpa [Rot.levelOf] using this
      case measure => simp [intOf]; omega
    · have hk' : k = 8 := by omega
      subst hk'
      go_wp2_with fail
      go_ret
      exact ⟨_, rfl, O, G⟩
end Go.Proofs.YthlincikgdblfaaGreat

namespace Go.Proofs.YthlincikgdblfaaGreat
open Go.RowKit
set_option linter.unusedVariables false

/-- How often each byte value stands in a text, as cells. -/
def cntOf (l : List UInt8) (c : Nat) : Nat := l.countP fun b => b.toNat == c
def cntCells (l : List UInt8) : Array Value := ((List.range 256).map fun (c : Nat) => Value.int .u16 (cntOf l c : Int)).toArray
theorem cnt_size (l : List UInt8) : (cntCells l).size = 256 := by simp [cntCells]
theorem cnt_get (l : List UInt8) (c : Nat) (hc : c < 256) : (cntCells l)[c]? = some (.int .u16 (cntOf l c : Int)) := by
  simp [cntCells, hc]
theorem cntOf_snoc (l : List UInt8) (b : UInt8) (c : Nat) : cntOf (l ++ [b]) c = cntOf l c + if b.toNat = c then 1 else 0 := by
  unfold cntOf
  rw [List.countP_append]
  by_cases h : b.toNat = c <;> simp [h]
theorem cnt_set (l : List UInt8) (b : UInt8) : (cntCells l).setIfInBounds b.toNat (.int .u16 ((cntOf l b.toNat : Int) + 1)) = cntCells (l ++ [b]) := by
  have hb : b.toNat < 256 := b.toNat_lt
  apply Array.ext_getElem?
  intro j
  rw [Array.getElem?_setIfInBounds]
  by_cases hj : j < 256
  · rw [cnt_get _ j hj, cnt_get _ j hj, cntOf_snoc, cnt_size]
    by_cases e : b.toNat = j
    · subst e; simp [hb]
    · simp [e]
  · have h1 : (cntCells l)[j]? = none := Array.getElem?_eq_none (by rw [cnt_size]; omega)
    have h2 : (cntCells (l ++ [b]))[j]? = none := Array.getElem?_eq_none (by rw [cnt_size]; omega)
    rw [h1, h2]
    by_cases e : b.toNat = j
    · omega
    · simp [e]
theorem cnt_le (l : List UInt8) (c : Nat) : cntOf l c ≤ l.length := List.countP_le_length
theorem belowOf_succ (l : List UInt8) (c : Nat) : Rot.belowOf l (c + 1) = Rot.belowOf l c + cntOf l c := by
  unfold Rot.belowOf cntOf
  induction l with
  | nil => rfl
  | cons b l ih =>
    simp only [List.filter_cons, List.countP_cons]
    by_cases h1 : b.toNat < c
    · have h2 : b.toNat < c + 1 := by omega
      have h3 : ¬ b.toNat = c := by omega
      simp [h1, h2, h3]; omega
    · by_cases h2 : b.toNat = c
      · subst h2; simp; omega
      · have h3 : ¬ b.toNat < c + 1 := by omega
        simp [h1, h2, h3]; omega
theorem belowOf_le (l : List UInt8) (c : Nat) : Rot.belowOf l c ≤ 1 + l.length := by
  unfold Rot.belowOf
  have := List.length_filter_le (fun b : UInt8 => decide (b.toNat < c)) l
  omega
theorem zero_cells : Tryz.zeroCells74 = cntCells [] := by kernel_rfl

theorem idx_counts (cs : Array Value) (k : Nat) (v : Value) (hk : k < 256) (hv : cs[k]? = some v) (w : World) : (Instr.index 74 (.agg cs) (.int .i64 (k : Int))).run Tryz.prog w = .ok v w := by
  have h0 : (k : Int) < 256 := by omega
  simp [Instr.index, run_underlying Tryz.underlying74, asIntOf, part, Tryz.sizeOf67, Tryz.isAgg67, hv, go_sem]
  intro h
  omega

theorem take_snoc' (s : ByteArray) (k : Nat) (h : k < s.size) : s.data.toList.take (k + 1) = s.data.toList.take k ++ [s[k]] := by
  rw [List.take_succ_eq_append_getElem (by simpa using h)]; rfl

set_option maxRecDepth 100000 in
set_option maxHeartbeats 1000000 in
theorem first_any (s : ByteArray) (w : World) (hs : s.size ≤ 250) :
    Calls Tryz.prog 94 #[.string s] w fun e w' => ∃ v', e = .returned v' ∧ Bs w' w.heap.size v' (Rot.firstOf s.data.toList) ∧ w.grownBy w' none := by
  go_enter Tryz.func94, Tryz.ntmps94
  go_wp2_with fail
  rw [zero_cells]
  go_loopw [11] (fun i wr => ∃ k : Nat, k ≤ s.size ∧ i = .int .i64 k ∧ wr.heap[w.heap.size]? = some (.cells (cntCells (s.data.toList.take k)) 74 (0, 0)) ∧ w.grownBy wr none) (fun i _ => s.size - (intOf i).toNat)
  case atStart => exact ⟨0, Nat.zero_le _, rfl, heap_alloc_new _ _, World.grownBy_alloc _ _ _⟩
  case round =>
    obtain ⟨k, hk, rfl, hh, G⟩ := hrel
    by_cases hlt : k < s.size
    · have hb := (s[k]).toNat_lt
      have hc := cell_of_row wr w.heap.size (s[k]).toNat _ _ _ hh
      rw [cnt_get _ _ hb] at hc
      have hf := frozen_of_row wr w.heap.size (s[k]).toNat _ _ hh
      have hle := cnt_le (s.data.toList.take k) (s[k]).toNat
      rw [List.length_take] at hle
      have HH := hide hh
      have HT := hide (take_snoc' s k hlt)
      have HS := hide (cnt_set (s.data.toList.take k) (s[k]))
      clear hh
      generalize hcn : cntOf (s.data.toList.take k) (s[k]).toNat = cn at hc hle HS
      clear hcn
      go_wp2
      go_roundw
      case rel =>
        refine ⟨k + 1, by omega, by go_num, ?_, ?_⟩
        · rw [unhide HT, ← unhide HS]
          exact heap_setCell_same wr w.heap.size _ _ _ _ (unhide HH)
        · exact grown_trans G (grown_setCell wr w.heap.size _ _) (Or.inr ⟨_, rfl, Nat.le_refl _⟩)
      case measure => simp [intOf]; omega
    · have hk' : k = s.size := by omega
      subst hk'
      rw [List.take_of_length_le (by simp)] at hh
      generalize hL : s.data.toList = L at hh
      have hLs : L.length ≤ 250 := by rw [← hL]; simpa using hs
      have HLL := hide hL
      clear hL
      have hsz : (Tryz.prog.info? 74).map (·.size) = some (cntCells L).size := by rw [cnt_size]; kernel_rfl
      go_wp2_with (refine wpList_load_row rfl 74 (.tmp 3) rfl w.heap.size rfl _ _ _ _ hh Tryz.underlying74 rfl hsz ?_)
      clear hsz hh
      go_loopw [5, 6, 23] (fun v b i wr => ∃ k : Nat, k ≤ 256 ∧ i = .int .i64 k ∧ b = .int .u16 (Rot.belowOf L k : Int) ∧ Bs wr w.heap.size v ((List.range k).flatMap fun c => Rot.le16 (Rot.belowOf L c)) ∧ w.grownBy wr none) (fun _ _ i _ => 256 - (intOf i).toNat)
      case atStart => exact ⟨0, Nat.zero_le _, rfl, by rw [show Rot.belowOf L 0 = 1 from by simp [Rot.belowOf]]; rfl, Bs.nil _ _, G⟩
      case round =>
        obtain ⟨k, hk, rfl, rfl, A, G⟩ := hrel
        by_cases hlt : k < 256
        · have hidx := idx_counts (cntCells L) k _ hlt (cnt_get L k hlt)
          have hbl := belowOf_le L k
          have hbs := belowOf_le L (k + 1)
          have HB := hide (belowOf_succ L k)
          have hcl := cnt_le L k
          have hsum : Rot.belowOf L k + cntOf L k ≤ 1 + L.length := by rw [← unhide HB]; exact hbs
          clear hbs
          have hlen : ((List.range k).flatMap fun c => Rot.le16 (Rot.belowOf L c)).length < 900000 := by
            rw [← List.flatMap_map (f := Rot.belowOf L) (g := Rot.le16), flat_len]
            simp
            omega
          have hsz := G.size
          go_wp2_with fail
          refine (app16_any w.heap.size _ _ _ _ (by omega) A hlen (by omega)).mono ?_
          rintro e w1 ⟨u', rfl, A1⟩
          have G1 := A1.fresh G A
          have B1 := A1.own
          have e2 : ((List.range k).flatMap fun c => Rot.le16 (Rot.belowOf L c)) ++ Rot.le16 (Rot.belowOf L k) = (List.range (k + 1)).flatMap fun c => Rot.le16 (Rot.belowOf L c) := by
            rw [List.range_succ, List.flatMap_append]; simp
          rw [e2] at B1
          have HB1 := hide B1
          clear A A1 B1 e2 hlen hidx G
          go_wp2_with fail
          go_roundw
          case rel => exact ⟨k + 1, by omega, by go_num, num_eq (by rw [unhide HB]; omega), unhide HB1, G1⟩
          case measure => simp [intOf]; omega
        · have hk' : k = 256 := by omega
          subst hk'
          go_wp2_with fail
          go_ret
          exact ⟨_, rfl, by unfold Rot.firstOf; rw [unhide HLL]; exact A, G⟩
end Go.Proofs.YthlincikgdblfaaGreat
