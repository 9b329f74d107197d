import Derived.Test.YthlincikgdblfaaGreatA14
namespace Go.Proofs.YthlincikgdblfaaGreat
open Go.RowKit
set_option linter.unusedVariables false

theorem idxFrom_nat (d : List Nat) : ∀ i : Nat, 0 ∈ d → Lib.idxFrom (d.map fun n : Nat => (n : Int)) 0 i = ((i + d.idxOf 0 : Nat) : Int) := by
  induction d with
  | nil => intro i h; cases h
  | cons a d ih =>
    intro i h
    rw [List.map_cons, List.idxOf_cons]
    by_cases ha : a = 0
    · subst ha; simp [Lib.idxFrom]
    · have h' : 0 ∈ d := by
        rcases List.mem_cons.1 h with e | e
        · exact absurd e.symm ha
        · exact e
      have hz : ¬ (a : Int) = 0 := by omega
      have hb : (a == 0) = false := by simp [ha]
      simp only [Lib.idxFrom, hz, if_false, hb, cond_false]
      rw [ih (i + 1) h']
      omega
theorem idxOf_nat (d : List Nat) (h : 0 ∈ d) : Lib.idxOf (d.map fun n : Nat => (n : Int)) 0 = (d.idxOf 0 : Int) := by
  unfold Lib.idxOf
  rw [idxFrom_nat d 0 h, Nat.zero_add]

set_option maxRecDepth 100000 in
set_option maxHeartbeats 1000000 in
theorem last_any (B : Nat) (g cap : Nat) (d : List Nat) (w : World) (h : Is w B (.slice (some ⟨g, 0, none⟩) d.length cap) d) (h0 : 0 ∈ d) (hdl : d.length < 1000) :
    Calls Tryz.prog 91 #[.slice (some ⟨g, 0, none⟩) d.length cap] w fun e w' => ∃ v', e = .returned v' ∧ Bs w' w.heap.size v' (Rot.lastOf d) ∧ w.grownBy w' none := by
  have hcon := Tryz.slices_Index_int g 0 d.length cap (d.map fun n : Nat => (n : Int)) 0 w (by simp) (by omega) (by
    intro j hj
    have hj' : j < d.length := by simpa using hj
    rw [Nat.zero_add, Is.cell h j hj']
    simp [hj'])
  rw [List.take_of_length_le (by simp), idxOf_nat d h0] at hcon
  have hi : d.idxOf 0 < d.length := List.idxOf_lt_length_of_mem h0
  clear h
  unfold Rot.lastOf
  generalize d.idxOf 0 = k at hcon hi ⊢
  go_enter Tryz.func91, Tryz.ntmps91
  go_wp2_with fail
  refine hcon.mono ?_
  rintro e w1 ⟨rfl, hw⟩
  subst hw
  clear hcon
  go_wp2_with fail
  refine (app16_any w1.heap.size (.slice none 0 0) [] k _ (Nat.le_refl _) (Bs.nil _ _) (by simp) (by omega)).mono ?_
  rintro e w2 ⟨v', rfl, A⟩
  go_wp2_with fail
  go_ret
  exact ⟨_, rfl, by simpa using A.own, by simpa [Value.ownBlock] using A.grown⟩

theorem zeros_len (m : UInt8) (l : List UInt8) : (Rot.zerosOf m l).length ≤ l.length := List.length_filter_le _ _
theorem ones_len (m : UInt8) (l : List UInt8) : (Rot.onesOf m l).length ≤ l.length := List.length_filter_le _ _
theorem bits_len (l : List Bool) : (Rot.bitsOf l).length = (l.length + 7) / 8 + 2 * ((l.length + 15) / 16) := by
  have f := row_fits l
  have c := row_count l
  unfold Rot.bitsOf Rot.Row.bytes
  rw [List.length_append, flat_len, f.packed, f.ahead, c]
theorem next_len (m : UInt8) (l : List UInt8) : (Rot.nextOf m l).length = l.length := by
  unfold Rot.nextOf Rot.zerosOf Rot.onesOf
  rw [List.length_append]
  induction l with
  | nil => rfl
  | cons a l ih =>
    rw [List.filter_cons, List.filter_cons]
    cases h : (a &&& m == 0) <;> simp <;> omega
theorem level_len (m : UInt8) (l : List UInt8) : (Rot.levelOf m l).length = 2 + (l.length + 7) / 8 + 2 * ((l.length + 15) / 16) := by
  unfold Rot.levelOf
  rw [List.length_append, bits_len]
  simp [Rot.le16]
  omega
theorem tree_len (col : List UInt8) (k : Nat) : (Rot.treeTo col k).2.length = col.length ∧ (Rot.treeTo col k).1.length = k * (2 + (col.length + 7) / 8 + 2 * ((col.length + 15) / 16)) := by
  induction k with
  | zero => simp [Rot.treeTo]
  | succ k ih =>
    simp only [Rot.treeTo]
    rw [next_len, List.length_append, level_len, ih.1, ih.2]
    exact ⟨rfl, (Nat.succ_mul _ _).symm⟩

set_option maxRecDepth 100000 in
set_option maxHeartbeats 1000000 in
theorem tree_any (B : Nat) (v : Value) (col : List UInt8) (w : World) (h : Bs w B v col) (hB : B ≤ w.heap.size) (hl : col.length ≤ 250) :
    Calls Tryz.prog 92 #[v] w fun e w' => ∃ v', e = .returned v' ∧ Bs w' w.heap.size v' (Rot.treeOf col) ∧ w.grownBy w' none := by
  go_enter Tryz.func92, Tryz.ntmps92
  go_wp2_with fail
  go_loopw [0, 3, 8] (fun u o i wr => ∃ k : Nat, k ≤ 8 ∧ i = .int .i64 k ∧ Bs wr B u (Rot.treeTo col k).2 ∧ Bs wr w.heap.size o (Rot.treeTo col k).1 ∧ Apart u o ∧ w.grownBy wr none) (fun _ _ i _ => 8 - (intOf i).toNat)
  case atStart => exact ⟨0, Nat.zero_le _, rfl, h, Bs.nil _ _, (Apart.nil _).symm, World.grownBy.refl _ _⟩
  case round =>
    obtain ⟨k, hk, rfl, U, O, AUO, G⟩ := hrel
    clear h
    obtain ⟨l1, l2⟩ := tree_len col k
    by_cases hlt : k < 8
    · have ht1 : (Rot.treeTo col k).1.length < 40000 := by
        rw [l2]
        have hc : 2 + (col.length + 7) / 8 + 2 * ((col.length + 15) / 16) ≤ 100 := by omega
        exact Nat.lt_of_le_of_lt (Nat.mul_le_mul (by omega : k ≤ 8) hc) (by decide)
      have ht2 : (Rot.treeTo col k).2.length ≤ 250 := by rw [l1]; exact hl
      have HN : Hid (Rot.treeTo col (k + 1) = ((Rot.treeTo col k).1 ++ Rot.levelOf (UInt8.ofNat (2 ^ (7 - k))) (Rot.treeTo col k).2, Rot.nextOf (UInt8.ofNat (2 ^ (7 - k))) (Rot.treeTo col k).2)) := rfl
      generalize (Rot.treeTo col k).1 = T at O ht1 HN
      generalize (Rot.treeTo col k).2 = cc at U ht2 HN
      clear l1 l2
      have hsz := G.size
      go_wp2_with fail
      rw [← pow8 (7 - k)]
      generalize UInt8.ofNat (2 ^ (7 - k)) = m at HN ⊢
      refine (split_any B _ cc m _ U (by omega)).mono ?_
      rintro e w1 ⟨z, o, rfl, Z, O1, AP, G1⟩
      obtain ⟨az, cz, rfl⟩ := Z.shape
      obtain ⟨ao, co, rfl⟩ := O1.shape
      have hzl := zeros_len m cc
      have hol := ones_len m cc
      have E : ∀ o0, Bs wr w.heap.size o0 T → Bs w1 w.heap.size o0 T := fun _ h => h.kept0 G1
      have O' := O.kept0 G1
      have U1 := U.kept0 G1
      have ApZ := apart_old (w := wr) (B := 0) (fun k hk => (Z.lt hk).1) (fun k hk => (O.lt hk).2)
      have ApO := apart_old (w := wr) (B := 0) (fun k hk => (O1.lt hk).1) (fun k hk => (O.lt hk).2)
      have GG1 := grown_trans G G1 (Or.inl rfl)
      have hsz1 := GG1.size
      have HZ := hide Z
      have HO1 := hide O1
      have HU1 := hide U1
      have HA := hide AUO
      have HApZ := hide ApZ
      have HApO := hide ApO
      clear U O Z O1 U1 E AUO ApZ ApO G G1
      go_wp2_with fail
      refine (app16_any w.heap.size _ T (Rot.zerosOf m cc).length _ hsz1 O' (by omega) (by omega)).mono ?_
      rintro e w2 ⟨o1, rfl, A2⟩
      have G2 := A2.fresh GG1 O'
      have U2 := (unhide HU1).kept A2.grown (unhide HA).kept
      have HZ2 := hide ((unhide HZ).kept A2.grown (unhide HApZ).kept)
      have HO2 := hide ((unhide HO1).kept A2.grown (unhide HApO).kept)
      have HApZ2 := hide ((unhide HApZ).symm.step A2.at' (fun k hk => ((unhide HZ).lt hk).2)).symm
      have HApO2 := hide ((unhide HApO).symm.step A2.at' (fun k hk => ((unhide HO1).lt hk).2)).symm
      have A2o := A2.own
      have hsz2 := G2.size
      clear HZ HO1 HU1 HA HApZ HApO A2 O' GG1
      go_wp2_with fail
      refine (appendBits_any B w.heap.size _ _ (T ++ Rot.le16 (Rot.zerosOf m cc).length) cc m _ hsz2 A2o U2 (by omega) (by rw [List.length_append]; simp [Rot.le16]; omega)).mono ?_
      rintro e w3 ⟨o2, rfl, A3⟩
      have G3 := A3.fresh G2 A2o
      have Z3 := (unhide HZ2).kept A3.grown (unhide HApZ2).symm.symm.kept
      have O3 := (unhide HO2).kept A3.grown (unhide HApO2).symm.symm.kept
      have A3o := A3.own
      clear HZ2 HO2 HApZ2 HApO2 A2o U2 G2 A3
      go_wp2_with fail
      refine (concat_any wr.heap.size w3.heap.size _ _ _ _ _ (by simp) (by go_simp) (by go_simp) (Z3.alloc _) (O3.alloc _) (by omega) (by omega)).mono ?_
      rintro e w4 ⟨u', rfl, U4, G4⟩
      have HU4 := hide U4
      have HO4 := hide ((A3o.alloc _).kept0 G4)
      have HG4 := hide (grown_trans (grown_trans G3 (World.grownBy_alloc w3 _ none) (Or.inl rfl)) G4 (Or.inl rfl))
      have HAP := hide (apart_old (w := w3) (B := 0) (fun k hk => Nat.le_trans (by simp) (U4.lt hk).1) (fun k hk => (A3o.lt hk).2))
      have hsz3 := G3.size
      clear U4 G4 A3o Z3 O3 G3
      go_wp2_with fail
      go_roundw
      case rel =>
        refine ⟨k + 1, by omega, by go_num, ?_, ?_, unhide HAP, unhide HG4⟩
        · rw [unhide HN]
          exact (unhide HU4).mono (by simp; omega)
        · rw [unhide HN]
          have := unhide HO4
          simpa [Rot.levelOf] using this
      case measure => simp [intOf]; omega
    · have hk' : k = 8 := by omega
      subst hk'
      go_wp2_with fail
      go_ret
      exact ⟨_, rfl, O, G⟩
end Go.Proofs.YthlincikgdblfaaGreat
