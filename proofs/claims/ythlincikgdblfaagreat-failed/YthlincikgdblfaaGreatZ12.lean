import Derived.Test.YthlincikgdblfaaGreatZ10
import Derived.Test.YthlincikgdblfaaGreatZ11
import Derived.Test.YthlincikgdblfaaGreatZ01
import Derived.Test.YthlincikgdblfaaGreatProg
import Derived.OwnWalk
namespace Go.Proofs.YthlincikgdblfaaGreat
set_option linter.unusedVariables false
namespace Rot
/-- Where p stands in t. -/
def stands (t p : List UInt8) (i : Nat) : Bool := (t.drop i).take p.length == p
def placesIn (t p : List UInt8) : List Nat := (List.range (t.length + 1 - p.length)).filter (stands t p)
end Rot
open Go.RowKit
theorem extract_piece (t : List UInt8) (i k : Nat) : ((Sb t).extract i (i + k)).toList = (t.drop i).take k := by
  rw [ByteArray.toList_eq, ByteArray.data_extract]
  simp [Sb]
theorem cell_grown6 {w w' : World} {a : Addr} {v : Value} (h : w.cell? a = some v) (g : w.grownBy w' none) : w'.cell? a = some v :=
  (World.cell?_of_block (g.block a.block (World.block_lt_of_cell? w a h) (by simp))).trans h
/-- Behind i places. -/
def PlcV (w : World) (t p : List UInt8) (l i : Value) (wr : World) : Prop := ∃ k : Nat, k ≤ t.length + 1 - p.length ∧ i = .int .i64 (k : Int) ∧ Is wr w.heap.size l ((List.range k).filter (Rot.stands t p)) ∧ w.grownBy wr none
theorem PlcV.mk {w : World} {t p : List UInt8} {l i : Value} {wr : World} (k : Nat) (h1 : k ≤ t.length + 1 - p.length) (h2 : i = .int .i64 (k : Int)) (h3 : Is wr w.heap.size l ((List.range k).filter (Rot.stands t p))) (h4 : w.grownBy wr none) : PlcV w t p l i wr := ⟨k, h1, h2, h3, h4⟩

set_option maxRecDepth 100000 in
set_option maxHeartbeats 1000000 in
theorem rplaces_any (t : List UInt8) (p : ByteArray) (g : Nat) (w : World) (hc : w.cell? ⟨g, 0, none⟩ = some (.string (Sb t))) (ht : t.length ≤ 250) (hp : p.size ≤ maxLen) :
    Calls Tryz.prog 75 #[.pointer (some ⟨g, 0, none⟩), .string p] w fun e w' => ∃ v, e = .returned v ∧ Is w' w.heap.size v (Rot.placesIn t p.data.toList) ∧ w.grownBy w' none := by
  unfold maxLen at hp
  have hpl : p.data.toList.length = p.size := by simp
  have hsz := Sb_size t
  go_enter Tryz.func75, Tryz.ntmps75
  go_wp2_with fail
  go_loopw [5, 6] (fun l i wr => PlcV w t p.data.toList l i wr) (fun _ i _ => t.length + 1 - (intOf i).toNat)
  case atStart => exact PlcV.mk 0 (Nat.zero_le _) rfl (World.ownsRow_nil _ _ _ _) (World.grownBy.refl _ _)
  case round =>
    obtain ⟨k, hk, rfl, L, G⟩ := hrel
    rw [hpl] at hk
    have hcw := cell_grown6 hc G
    have hz := G.size
    by_cases hlt : k + p.size ≤ t.length
    · have dl : decide ((k : Int) + (p.size : Int) ≤ (t.length : Int)) = true := by simp; omega
      have hbe : (((Sb t).extract k (k + p.size)).toList == p.toList) = Rot.stands t p.data.toList k := by
        rw [extract_piece]
        unfold Rot.stands
        rw [hpl, ByteArray.toList_eq]
      have HF : Hid ((List.range (k + 1)).filter (Rot.stands t p.data.toList) = (List.range k).filter (Rot.stands t p.data.toList) ++ if Rot.stands t p.data.toList k = true then [k] else []) := by
        refine hide ?_
        rw [List.range_succ, List.filter_append]
        simp [List.filter_cons]
      have hll : ((List.range k).filter (Rot.stands t p.data.toList)).length ≤ 250 := by
        have := List.length_filter_le (Rot.stands t p.data.toList) (List.range k)
        rw [List.length_range] at this
        omega
      cases hst : Rot.stands t p.data.toList k with
      | true =>
        rw [hst] at hbe HF
        rw [if_pos rfl] at HF
        clear hst
        go_wp2_with (at_builtin; refine wp_appI _ rfl (.tmp 31) (.tmp 33) rfl w.heap.size _ _ rfl (World.ownsRow.alloc L _) ⟨wr.heap.size, 0, none⟩ 1 1 [k] rfl rfl (cell_one_new _ _ _) ?a2 ?a3 ?_)
        case a2 => simp only [List.length_singleton]; omega
        case a3 => simp; omega
        intro v1 w1 L1 g1
        have HL : Hid (Is w1 w.heap.size v1 ((List.range (k + 1)).filter (Rot.stands t p.data.toList))) := by rw [unhide HF]; exact L1
        have HG := hide (grown_trans (grown_alloc G _) g1 (by
          cases e : u5.ownBlock with
          | none => exact Or.inl rfl
          | some j => exact Or.inr ⟨j, rfl, (World.ownsRow.lt L j e).1⟩))
        clear L1 g1 L G
        go_wp2_with fail
        go_roundw
        case rel =>
          first | exact PlcV.mk (k + 1) (by omega) (by go_num) (unhide HL) (unhide HG) | (repeat apply Exists.intro; refine ⟨?_, rfl⟩; exact PlcV.mk (k + 1) (by omega) (by go_num) (unhide HL) (unhide HG))
        case measure => simp [intOf]; omega
      | false =>
        rw [hst] at hbe HF
        have HL : Hid (Is wr w.heap.size u5 ((List.range (k + 1)).filter (Rot.stands t p.data.toList))) := by
          refine hide ?_
          rw [unhide HF]
          simpa using L
        have HG := hide G
        clear hst L G
        go_wp2_with fail
        go_roundw
        case rel =>
          first | exact PlcV.mk (k + 1) (by omega) (by go_num) (unhide HL) (unhide HG) | (repeat apply Exists.intro; refine ⟨?_, rfl⟩; exact PlcV.mk (k + 1) (by omega) (by go_num) (unhide HL) (unhide HG))
        case measure => simp [intOf]; omega
    · have dl : decide ((k : Int) + (p.size : Int) ≤ (t.length : Int)) = false := by simp; omega
      have ek : k = t.length + 1 - p.data.toList.length := by omega
      have HL : Hid (Is wr w.heap.size u5 (Rot.placesIn t p.data.toList)) := by
        unfold Rot.placesIn
        rw [← ek]
        exact L
      have HG := hide G
      have hkp : k + p.size ≤ 9223372036854775807 := by omega
      clear L G ek
      go_wp2_with fail
      go_ret
      exact ⟨_, rfl, unhide HL, unhide HG⟩

theorem places_le (t p : List UInt8) : (Rot.placesIn t p).length ≤ t.length + 1 := by
  unfold Rot.placesIn
  have := List.length_filter_le (Rot.stands t p) (List.range (t.length + 1 - p.length))
  rw [List.length_range] at this
  omega
theorem rcount_any (t : List UInt8) (p : ByteArray) (g : Nat) (w : World) (hc : w.cell? ⟨g, 0, none⟩ = some (.string (Sb t))) (ht : t.length ≤ 250) (hp : p.size ≤ maxLen) :
    Calls Tryz.prog 43 #[.pointer (some ⟨g, 0, none⟩), .string p] w fun e w' => e = .returned (.int .i64 ((Rot.placesIn t p.data.toList).length : Nat)) ∧ w.grownBy w' none := by
  have hcon := rplaces_any t p g w hc ht hp
  have hpl := places_le t p.data.toList
  generalize Rot.placesIn t p.data.toList = pl at hcon hpl ⊢
  go_enter Tryz.func43, Tryz.ntmps43
  go_wp2_with fail
  refine hcon.mono ?_
  rintro e w1 ⟨v, rfl, L, G⟩
  have HG := hide G
  rcases L.form with ⟨rfl, e0⟩ | ⟨g1, cap, rfl, _, _, _⟩
  · subst e0
    clear L G hcon
    go_wp2_with fail
    go_ret
    exact ⟨rfl, unhide HG⟩
  · clear L G hcon
    go_wp2_with fail
    go_ret
    exact ⟨rfl, unhide HG⟩
theorem rlocate_no (t : List UInt8) (p : ByteArray) (g : Nat) (m : Int) (w : World) (hm : m < 0) :
    Calls Tryz.prog 44 #[.pointer (some ⟨g, 0, none⟩), .string p, .int .i64 m] w fun e w' => e = .returned (.tuple #[.slice none 0 0, .int .i64 1]) ∧ w' = w := by
  have d : decide (m < 0) = true := by simpa using hm
  go_enter Tryz.func44, Tryz.ntmps44
  go_wp2_with fail
  go_ret2
  exact ⟨rfl, rfl⟩
theorem rlocate_yes (t : List UInt8) (p : ByteArray) (g m : Nat) (w : World) (hc : w.cell? ⟨g, 0, none⟩ = some (.string (Sb t))) (ht : t.length ≤ 250) (hp : p.size ≤ maxLen) (hm : m ≤ 9223372036854775807) :
    Calls Tryz.prog 44 #[.pointer (some ⟨g, 0, none⟩), .string p, .int .i64 m] w fun e w' => ∃ v, e = .returned (.tuple #[v, .int .i64 0]) ∧ Ints w' v (((Rot.placesIn t p.data.toList).take m).map fun (n : Nat) => (n : Int)) ∧ w.grownBy w' none := by
  have d : decide ((m : Int) < 0) = false := by simp
  have hcon := rplaces_any t p g w hc ht hp
  have hpl := places_le t p.data.toList
  have hmem : ∀ x ∈ Rot.placesIn t p.data.toList, x ≤ 1000 := by
    intro x hx
    unfold Rot.placesIn at hx
    have := List.mem_range.1 (List.mem_filter.1 hx).1
    omega
  have HM := hide hmem
  clear hmem
  generalize Rot.placesIn t p.data.toList = pl at hcon hpl HM ⊢
  go_enter Tryz.func44, Tryz.ntmps44
  go_wp2_with fail
  refine hcon.mono ?_
  rintro e w1 ⟨v, rfl, L, G⟩
  have HG := hide G
  clear G hcon
  have hints : ∀ (k : Nat) a c, k ≤ pl.length → (pl.take k = [] ∨ ∃ b off, a = some ⟨b, off, none⟩ ∧ ∀ i (hi : i < k), ∃ hi2 : i < pl.length, w1.cell? ⟨b, off + i, none⟩ = some (.int .i64 ((pl[i]'hi2 : Nat) : Int))) → Ints w1 (.slice a k c) ((pl.take k).map fun (n : Nat) => (n : Int)) := by
    intro k a c hk h
    refine ⟨?_, by simp; omega, a, c, by simp [hk], ?_⟩
    · intro z hz
      obtain ⟨x, hx, rfl⟩ := List.mem_map.1 hz
      have := unhide HM x (List.mem_of_mem_take hx)
      omega
    · rcases h with h | ⟨b, off, e, h⟩
      · exact Or.inl (by rw [h]; rfl)
      · right
        refine ⟨b, off, e, ?_⟩
        intro i hi
        simp only [List.length_map, List.length_take] at hi
        obtain ⟨hi2, hcell⟩ := h i (by omega)
        rw [hcell]
        simp
  have HI := hide hints
  clear hints
  rcases L.form with ⟨rfl, e0⟩ | ⟨g1, cap, rfl, hb1, hb2, hb3⟩
  · subst e0
    clear L
    go_wp2_with fail
    go_ret2
    refine ⟨_, rfl, ?_, unhide HG⟩
    rw [List.take_nil]
    exact unhide HI 0 none 0 (by simp) (Or.inl rfl)
  · have HC := hide (fun i hi => Is.cell L i hi)
    clear L
    by_cases hlm : m < pl.length
    · have d2 : decide ((m : Int) < (pl.length : Int)) = true := by simp; omega
      go_wp2_with fail
      go_ret2
      refine ⟨_, rfl, ?_, unhide HG⟩
      refine unhide HI m _ _ (by omega) (Or.inr ⟨g1, 0, rfl, fun i hi => ⟨by omega, ?_⟩⟩)
      rw [Nat.zero_add]
      exact unhide HC i (by omega)
    · have d2 : decide ((m : Int) < (pl.length : Int)) = false := by simp; omega
      go_wp2_with fail
      go_ret2
      refine ⟨_, rfl, ?_, unhide HG⟩
      have e : pl.take m = pl.take pl.length := by rw [List.take_length, List.take_of_length_le (by omega)]
      rw [e]
      refine unhide HI pl.length _ _ (Nat.le_refl _) (Or.inr ⟨g1, 0, rfl, fun i hi => ⟨hi, ?_⟩⟩)
      rw [Nat.zero_add]
      exact unhide HC i hi
end Go.Proofs.YthlincikgdblfaaGreat

namespace Go.Proofs.YthlincikgdblfaaGreat
set_option linter.unusedVariables false
namespace Rot
theorem gives_pos {sz : List Int} (hp : ∀ z ∈ sz, 1 ≤ z) (k : Nat) {n : Int} (hn : 1 ≤ n) : 1 ≤ gives sz k n := by
  unfold gives
  cases h : sz[k]? with
  | none => exact hn
  | some z =>
    have := hp z (List.mem_of_getElem? h)
    simp only []
    split <;> omega
/-- Where each read gives something all is read. -/
theorem reads_pos {len : Nat} {sz : List Int} (hp : ∀ z ∈ sz, 1 ≤ z) {at' calls no : Nat} {ok : Bool} {k : Nat} (h : Reads len sz at' calls no ok k) : ok = true := by
  induction h with
  | done => rfl
  | fails a c n hl e =>
    have h1 := gives_pos hp c (n := ((asked len a : Nat) : Int)) (by unfold asked; omega)
    unfold readStep at e
    rw [if_neg (by omega), if_neg (by omega)] at e
    cases e
  | goes _ _ _ _ _ _ _ _ _ _ ih => exact ih
end Rot
open Go.RowKit
/-- APPEND OF INTS, however many. -/
theorem wp_appL (w : World) {ops : Array Oper} {rest : List Oper} {o : Oper} {a : Act} {Q : Exit → Act → World → Prop} (hgd : o.guard = none) (s x : Operand)
    (ho : o.op = .call { callee := .builtin .append, args := #[s, x], argTypes := #[25, 25] })
    (B : Nat) (v : Value) (l : List Nat) (hs : a.eval s = v) (hown : Is w B v l) (ad : Addr) (c n : Nat) (m : List Nat) (hn : m.length = n) (hx : a.eval x = .slice (some ad) n c) (hm : ∀ j u, (byI m)[j]? = some u → w.cell? (ad.add j) = some u)
    (hl : (l.length + m.length) * 8 ≤ 140737488355328) (hB : B ≤ w.heap.size)
    (h : ∀ v' w', Is w' B v' (l ++ m) → w.grownBy w' v.ownBlock → wpList Tryz.prog ops Q rest (a.put o.dst v') w') : wpList Tryz.prog ops Q (o :: rest) a w := by
  subst hn
  obtain ⟨i0, hi, hz0, hz1, hz2⟩ := info_parts infoI
  refine wpList_append_own_at w hgd s x 25 ho B 3 i0 (.int .i64 0) 1 8 Tryz.underlying25 hi hz0 hz1 hz2 rfl (by decide) v l.length (byI l) hs hown ad m.length c (byI m) hx (by rw [byI_length]; omega) hm (byI_one m) (by unfold maxLen; omega) hl hB ?_
  intro v' w' h1 h2 h3 h4
  refine h v' w' ?_ h2
  unfold Is; rw [byI_append, List.length_append]; exact h1
/-- Sizes of reads that give something each. -/
def slowOf (zs : List Int) : List Nat := zs.map fun z => 1 + pickOf z 70
theorem slow_len (zs : List Int) : (slowOf zs).length = zs.length := by simp [slowOf]
def SlowV (w : World) (zs : List Int) (l i : Value) (wr : World) : Prop := ∃ k : Nat, k ≤ zs.length ∧ i = .int .i64 (k : Int) ∧ Is wr w.heap.size l (slowOf (zs.take k)) ∧ w.grownBy wr none
theorem SlowV.mk {w : World} {zs : List Int} {l i : Value} {wr : World} (k : Nat) (h1 : k ≤ zs.length) (h2 : i = .int .i64 (k : Int)) (h3 : Is wr w.heap.size l (slowOf (zs.take k))) (h4 : w.grownBy wr none) : SlowV w zs l i wr := ⟨k, h1, h2, h3, h4⟩
set_option maxRecDepth 100000 in
set_option maxHeartbeats 1000000 in
theorem slow_any (v : Value) (zs : List Int) (w : World) (hI : Ints w v zs) (hz : zs.length * 8 ≤ 140737488355328) :
    Calls Tryz.prog 16 #[v] w fun e w' => ∃ v', e = .returned v' ∧ Is w' w.heap.size v' (slowOf zs) ∧ w.grownBy w' none := by
  have HI := hide hI
  obtain ⟨hb, _, a, c, rfl, hcells⟩ := hI
  have HC := hide hcells
  have HBd := hide hb
  clear hcells hb
  go_enter Tryz.func16, Tryz.ntmps16
  go_wp2_with fail
  go_loopw [3, 4] (fun l i wr => SlowV w zs l i wr) (fun _ i _ => zs.length - (intOf i).toNat)
  case atStart => exact SlowV.mk 0 (Nat.zero_le _) rfl (World.ownsRow_nil _ _ _ _) (World.grownBy.refl _ _)
  case round =>
    obtain ⟨k, hk, rfl, L, G⟩ := hrel
    have hzz := G.size
    by_cases hlt : k < zs.length
    · rcases unhide HC with h0 | ⟨b, off, rfl, hc⟩
      · rw [h0] at hlt; simp at hlt
      have hck := G.cell (hc k hlt) (by simp)
      have hbd := unhide HBd _ (List.getElem_mem hlt)
      have hcon := fun W => kpick_any (zs[k]'hlt) 70 W hbd.1 hbd.2 (by decide) (by decide)
      have hpk := pick_lt (zs[k]'hlt) 70 (by decide)
      have HF : Hid (slowOf (zs.take (k + 1)) = slowOf (zs.take k) ++ [1 + pickOf (zs[k]'hlt) 70]) := by
        unfold slowOf
        rw [List.take_succ_eq_append_getElem hlt, List.map_append]
        rfl
      generalize pickOf (zs[k]'hlt) 70 = pk at hcon hpk HF
      generalize zs[k]'hlt = zk at hcon hck hbd
      have hll : (slowOf (zs.take k)).length = k := by rw [slow_len, List.length_take]; omega
      clear hc
      go_wp2_with fail
      refine (hcon _).mono ?_
      rintro e w1 ⟨rfl, hw1⟩
      subst hw1
      clear hcon
      go_wp2_with (at_builtin; refine wp_appL _ rfl (.tmp 11) (.tmp 18) rfl w.heap.size _ _ rfl (World.ownsRow.alloc L _) ⟨w1.heap.size, 0, none⟩ 1 1 [1 + pk] rfl rfl (cell_one_new _ _ _) ?a2 ?a3 ?_)
      case a2 => simp only [List.length_singleton, hll]; omega
      case a3 => simp; omega
      intro v1 w2 L1 g1
      have HL : Hid (Is w2 w.heap.size v1 (slowOf (zs.take (k + 1)))) := by rw [unhide HF]; exact L1
      have HG := hide (grown_trans (grown_alloc G _) g1 (by
        cases e : u3.ownBlock with
        | none => exact Or.inl rfl
        | some j => exact Or.inr ⟨j, rfl, (World.ownsRow.lt L j e).1⟩))
      clear L1 g1 L G
      go_wp2_with fail
      go_roundw
      case rel =>
        first | exact SlowV.mk (k + 1) (by omega) (by go_num) (unhide HL) (unhide HG) | (repeat apply Exists.intro; refine ⟨?_, rfl⟩; exact SlowV.mk (k + 1) (by omega) (by go_num) (unhide HL) (unhide HG))
      case measure => simp [intOf]; omega
    · have ek : k = zs.length := by omega
      subst ek
      rw [List.take_length] at L
      have HL := hide L
      have HG := hide G
      clear L G
      go_wp2_with fail
      go_ret
      exact ⟨_, rfl, unhide HL, unhide HG⟩
end Go.Proofs.YthlincikgdblfaaGreat

namespace Go.Proofs.YthlincikgdblfaaGreat
open Go.RowKit
set_option linter.unusedVariables false

/-- A file was given up, for that reason. -/
def gu (n : Int) : List PanicEntry := [{ v := .iface 93 (.agg #[.int .i64 n]), recovered := false }]
theorem giveUp_any (n : Int) (w : World) : Calls Tryz.prog 58 #[.int .i64 n] w fun e w' => e = .panicked (gu n) ∧ w' = w := by
  go_enter Tryz.func58, Tryz.ntmps58
  go_wp2
  exact ⟨rfl, rfl, rfl⟩
theorem must_yes (w : World) : Calls Tryz.prog 76 #[.bool true] w fun e w' => e = .returned (.tuple #[]) ∧ w' = w := by
  go_enter Tryz.func76, Tryz.ntmps76
  go_wp2
  go_end0
  exact ⟨rfl, rfl⟩
theorem must_no (w : World) : Calls Tryz.prog 76 #[.bool false] w fun e w' => e = .panicked (gu 4) ∧ w' = w := by
  go_enter Tryz.func76, Tryz.ntmps76
  go_wp2_with fail
  refine (giveUp_any _ _).mono ?_
  rintro e w' ⟨rfl, rfl⟩
  go_wp2_with fail
  exact ⟨rfl, rfl, rfl⟩

/-- THE SLICE v, A PIECE OF BLOCK g, READS THE BYTES l. -/
def Vw (w : World) (g : Nat) (v : Value) (l : List UInt8) : Prop := ∃ off cap, v = .slice (some ⟨g, off, none⟩) l.length cap ∧ l.length ≤ cap ∧ l.length ≤ 100000 ∧ ∀ j (hj : j < l.length), w.cell? ⟨g, off + j, none⟩ = some (.int .u8 ((l[j]'hj).toNat : Int))
theorem Vw.kept {w w' : World} {g : Nat} {v : Value} {l : List UInt8} (h : Vw w g v l) (hk : ∀ j, w'.cell? ⟨g, j, none⟩ = w.cell? ⟨g, j, none⟩) : Vw w' g v l := by
  obtain ⟨off, cap, h1, h2, h3, h4⟩ := h
  exact ⟨off, cap, h1, h2, h3, fun j hj => (hk _).trans (h4 j hj)⟩
theorem Vw.setCell {w : World} {g : Nat} {v : Value} {l : List UInt8} (h : Vw w g v l) {b j : Nat} {x : Value} (hb : b ≠ g) : Vw (w.setCell ⟨b, j, none⟩ x) g v l :=
  h.kept fun k => World.cell?_setCell_other _ _ _ _ (fun e => hb (by injection e))
theorem Vw.grown {w w' : World} {g : Nat} {v : Value} {l : List UInt8} {r : Option Nat} (h : Vw w g v l) (hg : w.grownBy w' r) (hne : r ≠ some g) (hlt : g < w.heap.size) : Vw w' g v l :=
  h.kept fun k => by
    have := hg.block g hlt (fun e => hne e.symm)
    unfold World.cell?
    simp only [this]
/-- The reader at block b still has the bytes l of block g to read. -/
structure Rdr (w : World) (b g : Nat) (v : Value) (l : List UInt8) : Prop where
  cell : w.cell? ⟨b, 0, none⟩ = some v
  free : w.frozen? ⟨b, 0, none⟩ = false
  view : Vw w g v l
  ne : b ≠ g
theorem Rdr.set {w : World} {b g : Nat} {v v' : Value} {l l' : List UInt8} (h : Rdr w b g v l) (hv : Vw w g v' l') : Rdr (w.setCell ⟨b, 0, none⟩ v') b g v' l' :=
  ⟨World.cell?_setCell_same _ _ _ h.cell, (World.frozen?_setCell _ _ _ _).trans h.free, hv.setCell h.ne, h.ne⟩
theorem grown_cell {w w' : World} {r : Option Nat} (h : w.grownBy w' r) {b : Nat} (hb : b < w.heap.size) (hne : r ≠ some b) (j : Nat) : w'.cell? ⟨b, j, none⟩ = w.cell? ⟨b, j, none⟩ := World.cell?_of_block (a := ⟨b, j, none⟩) (h.block b hb (fun e => hne e.symm))
theorem grown_frozen {w w' : World} {r : Option Nat} (h : w.grownBy w' r) {b : Nat} (hb : b < w.heap.size) (hne : r ≠ some b) (j : Nat) : w'.frozen? ⟨b, j, none⟩ = w.frozen? ⟨b, j, none⟩ := World.frozen?_of_block (a := ⟨b, j, none⟩) (h.block b hb (fun e => hne e.symm))
theorem Rdr.lt {w : World} {b g : Nat} {v : Value} {l : List UInt8} (h : Rdr w b g v l) : b < w.heap.size := World.block_lt_of_cell? w ⟨b, 0, none⟩ h.cell
theorem Rdr.grown {w w' : World} {b g : Nat} {v : Value} {l : List UInt8} {r : Option Nat} (h : Rdr w b g v l) (hg : w.grownBy w' r) (hb : r ≠ some b) (hne : r ≠ some g) (hlt : g < w.heap.size) : Rdr w' b g v l :=
  ⟨(grown_cell hg h.lt hb 0).trans h.cell, (grown_frozen hg h.lt hb 0).trans h.free, h.view.grown hg hne hlt, h.ne⟩
theorem addr_add2 (g o j : Nat) : ((⟨g, o, none⟩ : Addr).add j) = ⟨g, o + j, none⟩ := by
  unfold Addr.add
  by_cases h0 : j = 0
  · subst h0; rfl
  · simp [h0]
/-- Slicing a piece: its head, its rest. -/
theorem slice_to (g off n cap c : Nat) (hc : c ≤ cap) (w : World) : (Instr.sliceAt 45 (.slice (some ⟨g, off, none⟩) n cap) none (some (.int .i64 (c : Int))) none).run Tryz.prog w = .ok (.slice (some ⟨g, off, none⟩) c cap) w := by
  have h : ¬ cap < c := by omega
  simp [go_sem, Tryz.underlying45, h]
theorem slice_from (g off n cap c : Nat) (hc : c ≤ n) (w : World) : (Instr.sliceAt 45 (.slice (some ⟨g, off, none⟩) n cap) (some (.int .i64 (c : Int))) none none).run Tryz.prog w = .ok (.slice (some ⟨g, if cap = c then off else off + c, none⟩) (n - c) (cap - c)) w := by
  have h : ¬ n < c := by omega
  by_cases e : cap = c
  · simp [go_sem, Tryz.underlying45, h, e]
  · simp [go_sem, Tryz.underlying45, h, e]
theorem Vw.take {w : World} {g off n cap c : Nat} {l : List UInt8} (h : Vw w g (.slice (some ⟨g, off, none⟩) n cap) l) (hc : c ≤ l.length) : Vw w g (.slice (some ⟨g, off, none⟩) c cap) (l.take c) := by
  obtain ⟨o, cp, h1, h2, h3, h4⟩ := h
  cases h1
  refine ⟨_, _, by rw [List.length_take, Nat.min_eq_left hc], by rw [List.length_take]; omega, by rw [List.length_take]; omega, fun j hj => ?_⟩
  rw [List.length_take] at hj
  rw [List.getElem_take]
  exact h4 j (by omega)
theorem Vw.drop {w : World} {g off n cap c : Nat} {l : List UInt8} (h : Vw w g (.slice (some ⟨g, off, none⟩) n cap) l) (hc : c ≤ l.length) : Vw w g (.slice (some ⟨g, if cap = c then off else off + c, none⟩) (n - c) (cap - c)) (l.drop c) := by
  obtain ⟨o, cp, h1, h2, h3, h4⟩ := h
  cases h1
  refine ⟨_, _, by rw [List.length_drop], by rw [List.length_drop]; omega, by rw [List.length_drop]; omega, fun j hj => ?_⟩
  rw [List.length_drop] at hj
  rw [List.getElem_drop, if_neg (by omega)]
  have := h4 (c + j) (by omega)
  rw [← Nat.add_assoc] at this
  exact this

theorem newReader_any (a : Option Addr) (n c : Nat) (w : World) : Calls Tryz.prog 47 #[.slice a n c] w fun e w' => e = .returned (.pointer (some ⟨w.heap.size, 0, none⟩)) ∧ w' = w.alloc (.cells #[.slice a n c] 134) := by
  go_enter Tryz.func47, Tryz.ntmps47
  go_wp2
  go_ret
  exact ⟨rfl, rfl⟩
/-- What was taken: u; the reader has the rest. -/
def Got (w w' : World) (b g : Nat) (u : Value) (l : List UInt8) (c : Nat) : Prop := Vw w g u (l.take c) ∧ ∃ v', Vw w g v' (l.drop c) ∧ w' = w.setCell ⟨b, 0, none⟩ v'
theorem bytes_yes (b g : Nat) (v : Value) (l : List UInt8) (c : Nat) (w : World) (h : Rdr w b g v l) (hc : c ≤ l.length) :
    Calls Tryz.prog 51 #[.pointer (some ⟨b, 0, none⟩), .int .i64 c] w fun e w' => ∃ u, e = .returned u ∧ Got w w' b g u l c := by
  obtain ⟨hcell, hfree, hview, hne⟩ := h
  have HV := hide hview
  obtain ⟨off, cap, rfl, hl, hcap, _⟩ := hview
  have s1 := slice_to g off l.length cap c (by omega)
  have s2 := slice_from g off l.length cap c hc
  have HD := hide ((unhide HV).drop hc)
  generalize (if cap = c then off else off + c) = off2 at s2 HD
  have hd : decide (c ≤ l.length) = true := by simp; omega
  go_enter Tryz.func51, Tryz.ntmps51
  go_wp2_with fail
  refine (must_yes _).mono ?_
  rintro e w0 ⟨rfl, hw0⟩
  subst hw0
  go_wp2_with fail
  go_ret
  exact ⟨_, rfl, (unhide HV).take hc, _, unhide HD, rfl⟩
theorem bytes_no (b g : Nat) (v : Value) (l : List UInt8) (c : Nat) (w : World) (h : Rdr w b g v l) (hc : l.length < c) :
    Calls Tryz.prog 51 #[.pointer (some ⟨b, 0, none⟩), .int .i64 c] w fun e w' => e = .panicked (gu 4) ∧ w' = w := by
  obtain ⟨hcell, hfree, hview, hne⟩ := h
  obtain ⟨off, cap, rfl, hl, hcap, _⟩ := hview
  have hd : decide (c ≤ l.length) = false := by simp; omega
  go_enter Tryz.func51, Tryz.ntmps51
  go_wp2_with fail
  refine (must_no _).mono ?_
  rintro e w0 ⟨rfl, hw0⟩
  subst hw0
  go_wp2_with fail
  exact ⟨rfl, rfl, rfl⟩
theorem end_yes (b g : Nat) (v : Value) (w : World) (h : Rdr w b g v []) :
    Calls Tryz.prog 53 #[.pointer (some ⟨b, 0, none⟩)] w fun e w' => e = .returned (.tuple #[]) ∧ w' = w := by
  obtain ⟨hcell, hfree, hview, hne⟩ := h
  obtain ⟨off, cap, rfl, hl, hcap, _⟩ := hview
  go_enter Tryz.func53, Tryz.ntmps53
  go_wp2_with fail
  refine (must_yes _).mono ?_
  rintro e w0 ⟨rfl, hw0⟩
  subst hw0
  go_wp2_with fail
  go_end0
  exact ⟨rfl, rfl⟩
theorem end_no (b g : Nat) (v : Value) (l : List UInt8) (w : World) (h : Rdr w b g v l) (hl0 : 0 < l.length) :
    Calls Tryz.prog 53 #[.pointer (some ⟨b, 0, none⟩)] w fun e w' => e = .panicked (gu 4) ∧ w' = w := by
  obtain ⟨hcell, hfree, hview, hne⟩ := h
  obtain ⟨off, cap, rfl, hl, hcap, _⟩ := hview
  have hd : ((l.length : Int) == 0) = false := by simp; intro e; rw [e] at hl0; simp at hl0
  go_enter Tryz.func53, Tryz.ntmps53
  go_wp2_with fail
  refine (must_no _).mono ?_
  rintro e w0 ⟨rfl, hw0⟩
  subst hw0
  go_wp2_with fail
  exact ⟨rfl, rfl, rfl⟩
end Go.Proofs.YthlincikgdblfaaGreat
