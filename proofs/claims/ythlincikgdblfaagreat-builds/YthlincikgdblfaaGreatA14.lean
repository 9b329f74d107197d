import Derived.Test.YthlincikgdblfaaGreatA8
namespace Go.Proofs.YthlincikgdblfaaGreat
open Go.RowKit
set_option linter.unusedVariables false

theorem rowOf_snoc (l : List Bool) (b : Bool) : Rot.rowOf (l ++ [b]) = (Rot.rowOf l).add b := by
  unfold Rot.rowOf
  rw [List.foldl_append]
  rfl
theorem fold_fits (l : List Bool) : ∀ r : Rot.Row, Fits r → (∀ x ∈ r.ahead, x ≤ r.count) → Fits (l.foldl Rot.Row.add r) ∧ (l.foldl Rot.Row.add r).count = r.count + l.length ∧ ∀ x ∈ (l.foldl Rot.Row.add r).ahead, x ≤ (l.foldl Rot.Row.add r).count := by
  induction l with
  | nil => intro r h h2; exact ⟨h, rfl, h2⟩
  | cons b l ih =>
    intro r h h2
    have h3 : ∀ x ∈ (r.add b).ahead, x ≤ (r.add b).count := by
      intro x hx
      have ho := h.ones
      simp only [Rot.Row.add, Rot.addAhead] at hx ⊢
      by_cases h16 : r.count % 16 = 0
      · rw [if_pos h16] at hx
        rcases List.mem_append.1 hx with hx | hx
        · have := h2 x hx; omega
        · simp at hx; omega
      · rw [if_neg h16] at hx
        have := h2 x hx; omega
    obtain ⟨f1, f2, f3⟩ := ih (r.add b) (h.add b) h3
    refine ⟨f1, ?_, f3⟩
    rw [List.foldl_cons, f2]
    simp [Rot.Row.add]
    omega
theorem none_fits : Fits Rot.Row.none := ⟨Nat.le_refl _, rfl, rfl⟩
theorem row_fits (l : List Bool) : Fits (Rot.rowOf l) := (fold_fits l _ none_fits (by intro x hx; cases hx)).1
theorem row_count (l : List Bool) : (Rot.rowOf l).count = l.length := by
  have := (fold_fits l _ none_fits (by intro x hx; cases hx)).2.1
  rw [show Rot.Row.none.count = 0 from rfl, Nat.zero_add] at this
  exact this
theorem row_ahead (l : List Bool) : ∀ x ∈ (Rot.rowOf l).ahead, x ≤ l.length := by
  have := (fold_fits l _ none_fits (by intro x hx; cases hx)).2.2
  intro x hx
  have h := this x hx
  rw [← row_count]
  exact h

theorem Bit.start (w : World) : Bit (w.alloc (.cells #[.slice none 0 0, .slice none 0 0, .int .i64 0, .int .u16 0] 69)) w.heap.size w.heap.size (.slice none 0 0) (.slice none 0 0) Rot.Row.none := by
  refine ⟨?_, ?_, ?_, ?_, ?_, ?_, ?_, ?_, Bs.nil _ _, World.ownsRow_nil _ _ _ _, Apart.nil _, by simp [Value.ownBlock], by simp [Value.ownBlock], by simp, Nat.le_refl _⟩
  all_goals go_simp
  all_goals rfl
theorem Apx.after {w wr w' : World} {C : Nat} {v v' : Value} {l : List UInt8} (G : w.grownBy wr none) (A : Apx wr w' C v v' l) : Apx w w' C v v' l :=
  ⟨A.own, grown_trans (grown_weak G _) A.grown (Or.inl rfl), by
    rcases A.at' with h | ⟨k, h, hk⟩
    · exact Or.inl h
    · exact Or.inr ⟨k, h, Nat.le_trans G.size hk⟩⟩
theorem apart_old {w : World} {B : Nat} {p v : Value} (hp : ∀ k, p.ownBlock = some k → w.heap.size ≤ k) (hv : ∀ k, v.ownBlock = some k → k < w.heap.size) : Apart p v := by
  intro k a b
  have := hp k a
  have := hv k b
  omega
theorem Below.alloc0 {w : World} (o : Obj) : Below w.heap.size w (w.alloc o) := (Below.refl _ _).alloc (Nat.le_refl _) o

/-- The bits of a row, laid behind bytes. -/
theorem appendTo_row (C : Nat) (v : Value) (l : List UInt8) (bs : List Bool) (p a : Value) (w wr : World) (hC : C ≤ w.heap.size) (hv : Bs w C v l) (h : Bit wr w.heap.size w.heap.size p a (Rot.rowOf bs)) (hW : Below w.heap.size w wr) (hb : bs.length < 1000) (hl : l.length < 50000) :
    Calls Tryz.prog 129 #[.pointer (some ⟨w.heap.size, 0, none⟩), v] wr fun e w' => ∃ v', e = .returned v' ∧ Apx w w' C v v' (l ++ Rot.bitsOf bs) := by
  have G := grown_of_below hW
  have hvl : ∀ k, v.ownBlock = some k → k < w.heap.size := fun k hk => (hv.lt hk).2
  have f := row_fits bs
  have hc := row_count bs
  refine (appendTo_any w.heap.size C w.heap.size p a v (Rot.rowOf bs) l wr h (Nat.le_trans hC G.size) (hv.kept0 G) (apart_old (B := 0) (fun k hk => (h.packed.lt hk).1) hvl) (apart_old (B := 0) (fun k hk => (World.ownsRow.lt h.ahead k hk).1) hvl) (fun e => by have := hvl _ e; omega) ?_ ?_).mono ?_
  · rw [f.packed, f.ahead, hc]; omega
  · intro x hx
    have := row_ahead bs x hx
    omega
  · rintro e w' ⟨v', he, A⟩
    exact ⟨v', he, Apx.after G A⟩

theorem map_snoc {α : Type} (f : α → Bool) (d : List α) (k : Nat) (hk : k < d.length) : (d.take (k + 1)).map f = (d.take k).map f ++ [f (d[k]'hk)] := by
  rw [List.take_succ_eq_append_getElem hk, List.map_append]
  rfl

set_option maxRecDepth 100000 in
set_option maxHeartbeats 1000000 in
theorem marks_any (B : Nat) (g cap : Nat) (d : List Nat) (r : Nat) (w : World) (h : Is w B (.slice (some ⟨g, 0, none⟩) d.length cap) d) (hd : ∀ x ∈ d, x < 1000) (hdl : d.length < 1000) (hr1 : 1 ≤ r) (hr2 : r ≤ 8) :
    Calls Tryz.prog 95 #[.slice (some ⟨g, 0, none⟩) d.length cap, .int .i64 r] w fun e w' => ∃ v', e = .returned v' ∧ Bs w' w.heap.size v' (Rot.marksOf d r) ∧ w.grownBy w' none := by
  have HD := hide hd
  have HU := hide h
  have B0 := hide (Bit.start w)
  clear hd h
  go_enter Tryz.func95, Tryz.ntmps95
  go_wp2_with fail
  go_loopw [10] (fun i wr => ∃ k : Nat, k ≤ d.length ∧ i = .int .i64 k ∧ ∃ p a, Bit wr w.heap.size w.heap.size p a (Rot.rowOf ((d.take k).map (Rot.isMarked r))) ∧ Below w.heap.size w wr) (fun i _ => d.length - (intOf i).toNat)
  case atStart => exact ⟨0, Nat.zero_le _, rfl, _, _, unhide B0, Below.alloc0 _⟩
  case round =>
    obtain ⟨k, hk, rfl, p, a, T, W⟩ := hrel
    clear B0
    by_cases hlt : k < d.length
    · have hck := Is.cell (ownsRow_kept0 (unhide HU) (grown_of_below W)) k hlt
      have hx : d[k]'hlt < 1000 := unhide HD _ (List.getElem_mem hlt)
      have HF := hide (map_snoc (Rot.isMarked r) d k hlt)
      have hcnt : (Rot.rowOf ((d.take k).map (Rot.isMarked r))).count < 1000 := by rw [row_count, List.length_map, List.length_take]; omega
      have hfit := row_fits ((d.take k).map (Rot.isMarked r))
      have HT := hide T
      have HW := hide W
      clear T W
      go_wp2_with fail
      refine (isMarked_any _ _ _ (by omega) hr1 hr2).mono ?_
      rintro e w1 ⟨rfl, hw1⟩
      subst hw1
      go_wp2_with fail
      refine (add_any w.heap.size w.heap.size p a _ (Rot.isMarked r (d[k]'hlt)) _ (unhide HT) hcnt hfit).mono ?_
      rintro e w2 ⟨rfl, p', a', T2, W2⟩
      rw [← rowOf_snoc, ← unhide HF] at T2
      have HT2 := hide T2
      have HW2 := hide ((unhide HW).trans W2)
      clear T2 W2 hck hcnt hfit
      go_wp2_with fail
      go_roundw
      case rel => exact ⟨k + 1, by omega, by go_num, p', a', unhide HT2, unhide HW2⟩
      case measure => simp [intOf]; omega
    · have hk' : k = d.length := by omega
      subst hk'
      rw [List.take_length] at T
      have hcon := appendTo_row w.heap.size (.slice none 0 0) [] _ p a w wr (Nat.le_refl _) (Bs.nil _ _) T W (by simpa using hdl) (by simp)
      go_wp2_with fail
      refine hcon.mono ?_
      rintro e w2 ⟨v', rfl, A⟩
      clear hcon
      go_wp2_with fail
      go_ret
      refine ⟨_, rfl, ?_, ?_⟩
      · have := A.own
        simpa [Rot.marksOf] using this
      · have := A.grown
        simpa [Value.ownBlock] using this

set_option maxRecDepth 100000 in
set_option maxHeartbeats 1000000 in
theorem appendBits_any (B C : Nat) (v u : Value) (l col : List UInt8) (m : UInt8) (w : World) (hC : C ≤ w.heap.size) (hv : Bs w C v l) (hu : Bs w B u col) (hcl : col.length < 1000) (hl : l.length < 50000) :
    Calls Tryz.prog 126 #[v, u, .int .u8 m.toNat] w fun e w' => ∃ v', e = .returned v' ∧ Apx w w' C v v' (l ++ Rot.bitsOf (col.map fun c => !(c &&& m == 0))) := by
  have B0 := hide (Bit.start w)
  have HV := hide hv
  rcases hu.form with ⟨rfl, rfl⟩ | ⟨g, cap, rfl, hg1, hg2, hg3⟩
  · clear hu hv
    go_enter Tryz.func126, Tryz.ntmps126
    go_wp2_with fail
    refine wp_loop_rounds 1 ?_
    rw [rounds_succ]
    have hcon := appendTo_row C v l [] _ _ w _ hC (unhide HV) (unhide B0) (Below.alloc0 _) (by simp) hl
    go_wp2_with fail
    refine hcon.mono ?_
    rintro e w2 ⟨v', rfl, A⟩
    clear hcon
    go_wp2_with fail
    go_ret
    exact ⟨_, rfl, A⟩
  · have HU := hide hu
    clear hu hv
    go_enter Tryz.func126, Tryz.ntmps126
    go_wp2_with fail
    go_loopw [12] (fun i wr => ∃ k : Nat, k ≤ col.length ∧ i = .int .i64 k ∧ ∃ p a, Bit wr w.heap.size w.heap.size p a (Rot.rowOf ((col.take k).map fun c => !(c &&& m == 0))) ∧ Below w.heap.size w wr) (fun i _ => col.length - (intOf i).toNat)
    case atStart => exact ⟨0, Nat.zero_le _, rfl, _, _, unhide B0, Below.alloc0 _⟩
    case round =>
      obtain ⟨k, hk, rfl, p, a, T, W⟩ := hrel
      clear B0
      by_cases hlt : k < col.length
      · have hck := Bs.cell (Bs.kept0 (unhide HU) (grown_of_below W)) k hlt
        have HF := hide (map_snoc (fun c : UInt8 => !(c &&& m == 0)) col k hlt)
        have hcnt : (Rot.rowOf ((col.take k).map fun c => !(c &&& m == 0))).count < 1000 := by rw [row_count, List.length_map, List.length_take]; omega
        have hfit := row_fits ((col.take k).map fun c => !(c &&& m == 0))
        have HT := hide T
        have HW := hide W
        clear T W
        generalize hcc : col[k]'hlt = c at hck HF
        clear hcc
        have hbit : (bits BinOp.and IntKind.u8 (c.toNat : Int) (m.toNat : Int) != 0) = !(c &&& m == 0) := by
          rw [and8]
          cases h0 : (c &&& m == 0) with
          | true =>
            have : c &&& m = 0 := by simpa using h0
            rw [this]; rfl
          | false =>
            have h1 : ¬ c &&& m = 0 := by simpa using h0
            have h2 : ¬ (c &&& m).toNat = 0 := fun e => h1 (UInt8.toNat_inj.1 e)
            show ((((c &&& m).toNat : Nat) : Int) != 0) = true
            rw [bne_iff_ne]
            omega
        have HBIT := hide hbit
        clear hbit
        go_wp2_with fail
        rw [unhide HBIT]
        refine (add_any w.heap.size w.heap.size p a _ (!(c &&& m == 0)) _ (unhide HT) hcnt hfit).mono ?_
        rintro e w2 ⟨rfl, p', a', T2, W2⟩
        rw [← rowOf_snoc, ← unhide HF] at T2
        have HT2 := hide T2
        have HW2 := hide ((unhide HW).trans W2)
        clear T2 W2 hck hcnt hfit
        go_wp2_with fail
        go_roundw
        case rel => exact ⟨k + 1, by omega, by go_num, p', a', unhide HT2, unhide HW2⟩
        case measure => simp [intOf]; omega
      · have hk' : k = col.length := by omega
        subst hk'
        rw [List.take_length] at T
        have hcon := appendTo_row C v l _ p a w wr hC (unhide HV) T W (by simpa using hcl) hl
        go_wp2_with fail
        refine hcon.mono ?_
        rintro e w2 ⟨v', rfl, A⟩
        clear hcon
        go_wp2_with fail
        go_ret
        exact ⟨_, rfl, A⟩
end Go.Proofs.YthlincikgdblfaaGreat
