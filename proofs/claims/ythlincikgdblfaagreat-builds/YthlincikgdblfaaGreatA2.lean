import Derived.Test.YthlincikgdblfaaGreatA1
import Derived.Lib.SlBytesConst
namespace Go.Proofs.YthlincikgdblfaaGreat
open Go.RowKit
set_option linter.unusedVariables false

theorem sum_snoc (l : List UInt8) (k : Nat) (hk : k < l.length) : Rot.sumOf (l.take (k + 1)) = Rot.sumStep (Rot.sumOf (l.take k)) (l[k]'hk) := by
  rw [List.take_succ_eq_append_getElem hk]
  unfold Rot.sumOf
  rw [List.foldl_append]
  rfl
theorem sum_lt (l : List UInt8) : Rot.sumOf l < 4294967296 := by
  rcases List.eq_nil_or_concat l with rfl | ⟨m, b, rfl⟩
  · decide
  · unfold Rot.sumOf
    rw [List.concat_eq_append, List.foldl_append]
    show Rot.sumStep _ _ < _
    unfold Rot.sumStep
    omega

set_option maxHeartbeats 400000 in
theorem checkSum_any (B : Nat) (v : Value) (l : List UInt8) (w : World) (h : Bs w B v l) (hl : l.length < 900000) :
    Calls Tryz.prog 63 #[v] w fun e w' => e = .returned (.int .u32 (Rot.sumOf l)) ∧ w' = w := by
  rcases h.form with ⟨rfl, rfl⟩ | ⟨g, cap, rfl, hg1, hg2, hg3⟩
  · go_enter Tryz.func63, Tryz.ntmps63
    go_wp2_with fail
    refine wp_loop_rounds 1 ?_
    rw [rounds_succ]
    go_wp2_with fail
    go_ret
    exact ⟨rfl, rfl⟩
  · have hc := h.cell
    clear h
    go_enter Tryz.func63, Tryz.ntmps63
    go_wp2_with fail
    go_loop [3, 8] (fun s i => ∃ k : Nat, k ≤ l.length ∧ i = .int .i64 k ∧ s = .int .u32 (Rot.sumOf (l.take k))) (fun _ i => l.length - (intOf i).toNat)
    case atStart => exact ⟨0, Nat.zero_le _, rfl, rfl⟩
    case round =>
      obtain ⟨k, hk, rfl, rfl⟩ := hrel
      by_cases hlt : k < l.length
      · have hck := hc k hlt
        have hbl := (l[k]'hlt).toNat_lt
        have hsl := sum_lt (l.take k)
        have HS : Hid (Rot.sumOf (l.take (k + 1)) = Rot.sumStep (Rot.sumOf (l.take k)) (l[k]'hlt)) := sum_snoc l k hlt
        clear hc
        go_wp2
        go_round
        case rel => 
          refine ⟨k + 1, by omega, by go_num, ?_⟩
          rw [HS.out]
          unfold Rot.sumStep
          exact num_eq (by omega)
        case measure => simp [intOf]; omega
      · go_wp2
        go_ret
        exact ⟨ret_int (by rw [List.take_of_length_le (by omega)]), rfl⟩

theorem flat_snoc (d : List Nat) (k : Nat) (hk : k < d.length) : (d.take (k + 1)).flatMap Rot.le16 = (d.take k).flatMap Rot.le16 ++ Rot.le16 (d[k]'hk) := by
  rw [List.take_succ_eq_append_getElem hk, List.flatMap_append]
  simp
theorem flat_len (d : List Nat) : (d.flatMap Rot.le16).length = 2 * d.length := by
  induction d with
  | nil => rfl
  | cons a d ih => rw [List.flatMap_cons, List.length_append, ih]; simp [Rot.le16]; omega

set_option maxHeartbeats 400000 in
theorem appendAll_any (B B2 : Nat) (v v2 : Value) (l : List UInt8) (d : List Nat) (w : World) (hB : B ≤ w.heap.size) (h : Bs w B v l) (h2 : Us w B2 v2 d) (hap : Apart v2 v) (hl : l.length + 2 * d.length < 900000) (hd : ∀ x ∈ d, x < 65536) :
    Calls Tryz.prog 150 #[v, v2] w fun e w' => ∃ v', e = .returned v' ∧ Apx w w' B v v' (l ++ d.flatMap Rot.le16) := by
  rcases h2.form with ⟨rfl, rfl⟩ | ⟨g, cap, rfl, hg1, hg2, hg3⟩
  · go_enter Tryz.func150, Tryz.ntmps150
    go_wp2_with fail
    refine wp_loop_rounds 1 ?_
    rw [rounds_succ]
    go_wp2_with fail
    go_ret
    exact ⟨v, rfl, by simpa using h, World.grownBy.refl _ _, At.refl _ _⟩
  · have HD : Hid (∀ x ∈ d, x < 65536) := hd
    have HU : Hid (Us w B2 (.slice (some ⟨g, 0, none⟩) d.length cap) d) := h2
    have HA := hap.kept
    clear hd h2 hap
    go_enter Tryz.func150, Tryz.ntmps150
    go_wp2_with fail
    go_loopw [0, 9] (fun u i wr => ∃ k : Nat, k ≤ d.length ∧ i = .int .i64 k ∧ Apx w wr B v u (l ++ (d.take k).flatMap Rot.le16)) (fun _ i _ => d.length - (intOf i).toNat)
    case atStart => exact ⟨0, Nat.zero_le _, rfl, by simpa using h, World.grownBy.refl _ _, At.refl _ _⟩
    case round =>
      obtain ⟨k, hk, rfl, A⟩ := hrel
      by_cases hlt : k < d.length
      · have hck := Us.cell (World.ownsRow.kept HU.out A.grown HA) k hlt
        have hx : d[k]'hlt < 65536 := HD.out _ (List.getElem_mem hlt)
        have hlen : (l ++ (d.take k).flatMap Rot.le16).length < 900000 := by rw [List.length_append, flat_len, List.length_take]; omega
        have hsz := A.size
        go_wp2_with fail
        refine (app16_any B _ _ _ _ (by omega) A.own hlen hx).mono ?_
        rintro e w1 ⟨u', rfl, A1⟩
        have A2 := A.trans A1
        rw [List.append_assoc, ← flat_snoc d k hlt] at A2
        clear A A1 hck hlen
        go_wp2_with fail
        go_roundw
        case rel => exact ⟨k + 1, by omega, by go_num, A2⟩
        case measure => simp [intOf]; omega
      · have hk' : k = d.length := by omega
        subst hk'
        rw [List.take_length] at A
        go_wp2
        go_ret
        exact ⟨_, rfl, A⟩


set_option maxRecDepth 100000 in
set_option maxHeartbeats 1000000 in
theorem headOf_any (n r size : Nat) (w : World) (hn : n < 65536) (hr : r < 256) (hs : size < 4294967296) :
    Calls Tryz.prog 64 #[.int .i64 n, .int .i64 r, .int .i64 size] w fun e w' => ∃ v', e = .returned v' ∧ Bs w' w.heap.size v' (Rot.headOf n r size) ∧ w.grownBy w' none := by
  have kc := fun (w : World) (C : Array Value) (n c : Nat) => Lib.run_convert_bytes_const (P := Tryz.prog) w 45 5 C n c Tryz.underlying45 Tryz.underlying5
  go_enter Tryz.func64, Tryz.ntmps64
  go_wp2_with fail
  clear kc
  refine (app16_full w.heap.size [82, 84, 88, 49] n _ ?_ (by simp) (by simp) hn).mono ?_
  · intro j hj
    rw [World.cell?_alloc_mark]
    match j, hj with
    | 0, _ => rfl
    | 1, _ => rfl
    | 2, _ => rfl
    | 3, _ => rfl
  rintro e w1 ⟨u1, rfl, A1, G1⟩
  have G0 : w.grownBy w1 none := grown_trans (World.grownBy_alloc w _ none) G1 (Or.inl rfl)
  have A1' := A1.mono (base' := w.heap.size) (by simp)
  clear A1 G1
  have hz1 := G0.size
  go_wp2_with fail
  refine (app8_any w.heap.size _ _ r _ hz1 A1' (by simp [Rot.le16]) hr).mono ?_
  rintro e w2 ⟨u2, rfl, A2⟩
  go_wp2_with fail
  refine (app8_any w.heap.size _ _ 5 _ (Nat.le_trans hz1 A2.size) A2.own (by simp [Rot.le16]) (by decide)).mono ?_
  rintro e w3 ⟨u3, rfl, B3⟩
  have A3 := A2.trans B3
  clear A2 B3
  go_wp2_with fail
  refine (app32_any w.heap.size _ _ size _ (Nat.le_trans hz1 A3.size) A3.own (by simp [Rot.le16]) hs).mono ?_
  rintro e w4 ⟨u4, rfl, B4⟩
  have A4 := A3.trans B4
  clear A3 B4
  go_wp2_with fail
  go_ret
  refine ⟨_, rfl, ?_, grown_trans G0 A4.grown (by
    cases eo : u1.ownBlock with
    | none => exact Or.inl rfl
    | some j => exact Or.inr ⟨j, rfl, (A1'.lt eo).1⟩)⟩
  have := A4.own
  simpa [Rot.headOf] using this
end Go.Proofs.YthlincikgdblfaaGreat
