import Derived.Test.YthlincikgdblfaaGreatA6
namespace Go.Proofs.YthlincikgdblfaaGreat
open Go.RowKit
set_option linter.unusedVariables false

/-- How often each byte value stands in a text, as cells. -/
def cntOf (l : List UInt8) (c : Nat) : Nat := l.countP fun b => b.toNat == c
def cntCells (l : List UInt8) : Array Value := ((List.range 256).map fun (c : Nat) => Value.int .u16 (cntOf l c : Int)).toArray
theorem cnt_size (l : List UInt8) : (cntCells l).size = 256 := by simp [cntCells]
theorem cnt_get (l : List UInt8) (c : Nat) (hc : c < 256) : (cntCells l)[c]? = some (.int .u16 (cntOf l c : Int)) := by
  simp [cntCells, hc]
theorem cntOf_snoc (l : List UInt8) (b : UInt8) (c : Nat) : cntOf (l ++ [b]) c = cntOf l c + if b.toNat = c then 1 else 0 := by
  unfold cntOf
  rw [List.countP_append]
  by_cases h : b.toNat = c <;> simp [h]
theorem cnt_set (l : List UInt8) (b : UInt8) : (cntCells l).setIfInBounds b.toNat (.int .u16 ((cntOf l b.toNat : Int) + 1)) = cntCells (l ++ [b]) := by
  have hb : b.toNat < 256 := b.toNat_lt
  apply Array.ext_getElem?
  intro j
  rw [Array.getElem?_setIfInBounds]
  by_cases hj : j < 256
  · rw [cnt_get _ j hj, cnt_get _ j hj, cntOf_snoc, cnt_size]
    by_cases e : b.toNat = j
    · subst e; simp [hb]
    · simp [e]
  · have h1 : (cntCells l)[j]? = none := Array.getElem?_eq_none (by rw [cnt_size]; omega)
    have h2 : (cntCells (l ++ [b]))[j]? = none := Array.getElem?_eq_none (by rw [cnt_size]; omega)
    rw [h1, h2]
    by_cases e : b.toNat = j
    · omega
    · simp [e]
theorem cnt_le (l : List UInt8) (c : Nat) : cntOf l c ≤ l.length := List.countP_le_length
theorem belowOf_succ (l : List UInt8) (c : Nat) : Rot.belowOf l (c + 1) = Rot.belowOf l c + cntOf l c := by
  unfold Rot.belowOf cntOf
  induction l with
  | nil => rfl
  | cons b l ih =>
    simp only [List.filter_cons, List.countP_cons]
    by_cases h1 : b.toNat < c
    · have h2 : b.toNat < c + 1 := by omega
      have h3 : ¬ b.toNat = c := by omega
      simp [h1, h2, h3]; omega
    · by_cases h2 : b.toNat = c
      · subst h2; simp; omega
      · have h3 : ¬ b.toNat < c + 1 := by omega
        simp [h1, h2, h3]; omega
theorem belowOf_le (l : List UInt8) (c : Nat) : Rot.belowOf l c ≤ 1 + l.length := by
  unfold Rot.belowOf
  have := List.length_filter_le (fun b : UInt8 => decide (b.toNat < c)) l
  omega
theorem zero_cells : Tryz.zeroCells74 = cntCells [] := by kernel_rfl

theorem idx_counts (cs : Array Value) (k : Nat) (v : Value) (hk : k < 256) (hv : cs[k]? = some v) (w : World) : (Instr.index 74 (.agg cs) (.int .i64 (k : Int))).run Tryz.prog w = .ok v w := by
  have h0 : (k : Int) < 256 := by omega
  simp [Instr.index, run_underlying Tryz.underlying74, asIntOf, part, Tryz.sizeOf67, Tryz.isAgg67, hv, go_sem]
  intro h
  omega

theorem take_snoc' (s : ByteArray) (k : Nat) (h : k < s.size) : s.data.toList.take (k + 1) = s.data.toList.take k ++ [s[k]] := by
  rw [List.take_succ_eq_append_getElem (by simpa using h)]; rfl

set_option maxRecDepth 100000 in
set_option maxHeartbeats 1000000 in
theorem first_any (s : ByteArray) (w : World) (hs : s.size ≤ 250) :
    Calls Tryz.prog 94 #[.string s] w fun e w' => ∃ v', e = .returned v' ∧ Bs w' w.heap.size v' (Rot.firstOf s.data.toList) ∧ w.grownBy w' none := by
  go_enter Tryz.func94, Tryz.ntmps94
  go_wp2_with fail
  rw [zero_cells]
  go_loopw [11] (fun i wr => ∃ k : Nat, k ≤ s.size ∧ i = .int .i64 k ∧ wr.heap[w.heap.size]? = some (.cells (cntCells (s.data.toList.take k)) 74 (0, 0)) ∧ w.grownBy wr none) (fun i _ => s.size - (intOf i).toNat)
  case atStart => exact ⟨0, Nat.zero_le _, rfl, heap_alloc_new _ _, World.grownBy_alloc _ _ _⟩
  case round =>
    obtain ⟨k, hk, rfl, hh, G⟩ := hrel
    by_cases hlt : k < s.size
    · have hb := (s[k]).toNat_lt
      have hc := cell_of_row wr w.heap.size (s[k]).toNat _ _ _ hh
      rw [cnt_get _ _ hb] at hc
      have hf := frozen_of_row wr w.heap.size (s[k]).toNat _ _ hh
      have hle := cnt_le (s.data.toList.take k) (s[k]).toNat
      rw [List.length_take] at hle
      have HH := hide hh
      have HT := hide (take_snoc' s k hlt)
      have HS := hide (cnt_set (s.data.toList.take k) (s[k]))
      clear hh
      generalize hcn : cntOf (s.data.toList.take k) (s[k]).toNat = cn at hc hle HS
      clear hcn
      go_wp2
      go_roundw
      case rel =>
        refine ⟨k + 1, by omega, by go_num, ?_, ?_⟩
        · rw [unhide HT, ← unhide HS]
          exact heap_setCell_same wr w.heap.size _ _ _ _ (unhide HH)
        · exact grown_trans G (grown_setCell wr w.heap.size _ _) (Or.inr ⟨_, rfl, Nat.le_refl _⟩)
      case measure => simp [intOf]; omega
    · have hk' : k = s.size := by omega
      subst hk'
      rw [List.take_of_length_le (by simp)] at hh
      generalize hL : s.data.toList = L at hh
      have hLs : L.length ≤ 250 := by rw [← hL]; simpa using hs
      have HLL := hide hL
      clear hL
      have hsz : (Tryz.prog.info? 74).map (·.size) = some (cntCells L).size := by rw [cnt_size]; kernel_rfl
      go_wp2_with (refine wpList_load_row rfl 74 (.tmp 3) rfl w.heap.size rfl _ _ _ _ hh Tryz.underlying74 rfl hsz ?_)
      clear hsz hh
      go_loopw [5, 6, 23] (fun v b i wr => ∃ k : Nat, k ≤ 256 ∧ i = .int .i64 k ∧ b = .int .u16 (Rot.belowOf L k : Int) ∧ Bs wr w.heap.size v ((List.range k).flatMap fun c => Rot.le16 (Rot.belowOf L c)) ∧ w.grownBy wr none) (fun _ _ i _ => 256 - (intOf i).toNat)
      case atStart => exact ⟨0, Nat.zero_le _, rfl, by rw [show Rot.belowOf L 0 = 1 from by simp [Rot.belowOf]]; rfl, Bs.nil _ _, G⟩
      case round =>
        obtain ⟨k, hk, rfl, rfl, A, G⟩ := hrel
        by_cases hlt : k < 256
        · have hidx := idx_counts (cntCells L) k _ hlt (cnt_get L k hlt)
          have hbl := belowOf_le L k
          have hbs := belowOf_le L (k + 1)
          have HB := hide (belowOf_succ L k)
          have hcl := cnt_le L k
          have hsum : Rot.belowOf L k + cntOf L k ≤ 1 + L.length := by rw [← unhide HB]; exact hbs
          clear hbs
          have hlen : ((List.range k).flatMap fun c => Rot.le16 (Rot.belowOf L c)).length < 900000 := by
            rw [← List.flatMap_map (f := Rot.belowOf L) (g := Rot.le16), flat_len]
            simp
            omega
          have hsz := G.size
          go_wp2_with fail
          refine (app16_any w.heap.size _ _ _ _ (by omega) A hlen (by omega)).mono ?_
          rintro e w1 ⟨u', rfl, A1⟩
          have G1 := A1.fresh G A
          have B1 := A1.own
          have e2 : ((List.range k).flatMap fun c => Rot.le16 (Rot.belowOf L c)) ++ Rot.le16 (Rot.belowOf L k) = (List.range (k + 1)).flatMap fun c => Rot.le16 (Rot.belowOf L c) := by
            rw [List.range_succ, List.flatMap_append]; simp
          rw [e2] at B1
          have HB1 := hide B1
          clear A A1 B1 e2 hlen hidx G
          go_wp2_with fail
          go_roundw
          case rel => exact ⟨k + 1, by omega, by go_num, num_eq (by rw [unhide HB]; omega), unhide HB1, G1⟩
          case measure => simp [intOf]; omega
        · have hk' : k = 256 := by omega
          subst hk'
          go_wp2_with fail
          go_ret
          exact ⟨_, rfl, by unfold Rot.firstOf; rw [unhide HLL]; exact A, G⟩
end Go.Proofs.YthlincikgdblfaaGreat
