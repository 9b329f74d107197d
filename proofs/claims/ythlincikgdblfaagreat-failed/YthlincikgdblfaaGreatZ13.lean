import Derived.Test.YthlincikgdblfaaGreatZ12
import Derived.WalkKit
import Derived.Deep.QuietTactic
import Derived.BigQuiet
import Derived.WalkLawsBesides
import Derived.WalkSpells
import Derived.Test.YthlincikgdblfaaGreatZ10
import Derived.Lib.AppendStr
import Derived.Laws.OwnMore
namespace Go.Proofs.YthlincikgdblfaaGreat
open Go.RowKit
set_option linter.unusedVariables false

/-- What a read leaves: the count of calls has turned, by one. -/
def Rq (b : Nat) (calls : Int) (w w' : World) : Prop := ∃ k l, w' = ((w.drewN k).setCell ⟨b, 2, none⟩ (.int .i64 (calls + 1))).drewN l
theorem Rq.mk' {b : Nat} {calls : Int} {w : World} (k l : Nat) : Rq b calls w (((w.drewN k).setCell ⟨b, 2, none⟩ (.int .i64 (calls + 1))).drewN l) := ⟨k, l, rfl⟩
/-- How many bytes a read gives. -/
def got (s : ByteArray) (at' : Nat) (n z : Int) : Int := if (s.size : Int) - at' < (if n < z then n else z) then (s.size : Int) - at' else (if n < z then n else z)

set_option maxHeartbeats 400000 in
theorem sread_in (b : Nat) (s : ByteArray) (ab ao : Nat) (len cap : Nat) (calls : Nat) (at' n : Nat) (z : Int) (m : Nat) (w : World)
    (h1 : w.cell? ⟨b, 0, none⟩ = some (.string s)) (h2 : w.cell? ⟨b, 1, none⟩ = some (.slice (some ⟨ab, ao, none⟩) len cap)) (h3 : w.cell? ⟨b, 2, none⟩ = some (.int .i64 calls))
    (h4 : w.cell? ⟨ab, ao + calls, none⟩ = some (.int .i64 z))
    (hf : w.frozen? ⟨b, 2, none⟩ = false) (hs : s.size ≤ 4611686018427387904)
    (c1 : (calls : Int) < len) (c2 : calls < 4611686018427387904) (a1 : at' ≤ s.size) (n1 : n ≤ 4611686018427387904) (z0 : 0 ≤ z) (z1 : z ≤ 9223372036854775807) 
    (hm : got s at' n z = m) :
    Calls Tryz.prog 57 #[.pointer (some ⟨b, 0, none⟩), .int .i64 at', .int .i64 n] w fun e w' => e = .returned (.tuple #[.string (s.extract at' (at' + m)), .bool true]) ∧ Rq b calls w w' := by
  have hb : at' + m ≤ s.size := by unfold got at hm; split at hm <;> (try split at hm) <;> omega
  have hsl : ∀ w, (Instr.slice 9 (.string s) (some (.int .i64 (at' : Int))) (some (.int .i64 ((at' : Int) + (if (s.size : Int) - at' < (if (n : Int) < z then (n : Int) else z) then (s.size : Int) - at' else (if (n : Int) < z then (n : Int) else z))))) none).run Tryz.prog w = .ok (.string (s.extract at' (at' + m))) w := by
    intro w
    have := run_slice_string (P := Tryz.prog) w 9 s .i64 .i64 (at' : Int) ((at' : Int) + (m : Int)) Tryz.underlying9 (by omega) (by omega) (by omega)
    unfold got at hm
    rw [hm]
    rw [this]
    congr 3
  clear hb
  have HM : Hid (got s at' n z = m) := hm
  clear hm
  have d1 : decide ((calls : Int) < (len : Int)) = true := by simp; omega
  have d2 : decide (z < 0) = false := by simp; omega
  have d4 : decide (s.size < at') = false := by simp; omega
  go_enter Tryz.func57, Tryz.ntmps57
  go_wp2
  go_quiet (fail)
  go_wp2
  go_quiet (fail)
  go_wp2
  go_quiet (fail)
  go_wp2
  all_goals (go_ret2; exact ⟨rfl, Rq.mk' _ _⟩)
set_option maxHeartbeats 400000 in
theorem sread_past (b : Nat) (s : ByteArray) (a : Option Addr) (len cap : Nat) (calls : Nat) (at' n : Nat) (m : Nat) (w : World)
    (h1 : w.cell? ⟨b, 0, none⟩ = some (.string s)) (h2 : w.cell? ⟨b, 1, none⟩ = some (.slice a len cap)) (h3 : w.cell? ⟨b, 2, none⟩ = some (.int .i64 calls))
    (hf : w.frozen? ⟨b, 2, none⟩ = false) (hs : s.size ≤ 4611686018427387904)
    (c1 : (len : Int) ≤ calls) (c2 : calls < 4611686018427387904) (a1 : at' ≤ s.size) (n1 : n ≤ 4611686018427387904) 
    (hm : got s at' n n = m) :
    Calls Tryz.prog 57 #[.pointer (some ⟨b, 0, none⟩), .int .i64 at', .int .i64 n] w fun e w' => e = .returned (.tuple #[.string (s.extract at' (at' + m)), .bool true]) ∧ Rq b calls w w' := by
  have hb : at' + m ≤ s.size := by unfold got at hm; split at hm <;> (try split at hm) <;> omega
  have hsl : ∀ w, (Instr.slice 9 (.string s) (some (.int .i64 (at' : Int))) (some (.int .i64 ((at' : Int) + (if (s.size : Int) - at' < (n : Int) then (s.size : Int) - at' else (n : Int))))) none).run Tryz.prog w = .ok (.string (s.extract at' (at' + m))) w := by
    intro w
    have := run_slice_string (P := Tryz.prog) w 9 s .i64 .i64 (at' : Int) ((at' : Int) + (m : Int)) Tryz.underlying9 (by omega) (by omega) (by omega)
    have hm2 : (if (s.size : Int) - at' < (n : Int) then (s.size : Int) - at' else (n : Int)) = m := by unfold got at hm; simpa using hm
    rw [hm2]
    rw [this]
    congr 3
  clear hb
  have HM : Hid (got s at' n n = m) := hm
  clear hm
  have d1 : decide ((calls : Int) < (len : Int)) = false := by simp; omega
  have d2 : decide ((n : Int) < 0) = false := by simp
  have d4 : decide (s.size < at') = false := by simp; omega
  go_enter Tryz.func57, Tryz.ntmps57
  go_wp2
  go_quiet (fail)
  go_wp2
  go_quiet (fail)
  go_wp2
  all_goals (go_ret2; exact ⟨rfl, Rq.mk' _ _⟩)

set_option maxHeartbeats 400000 in
theorem sread_fails (b : Nat) (s : ByteArray) (ab ao : Nat) (len cap : Nat) (calls : Nat) (at' n : Nat) (z : Int) (w : World)
    (h2 : w.cell? ⟨b, 1, none⟩ = some (.slice (some ⟨ab, ao, none⟩) len cap)) (h3 : w.cell? ⟨b, 2, none⟩ = some (.int .i64 calls))
    (h4 : w.cell? ⟨ab, ao + calls, none⟩ = some (.int .i64 z))
    (hf : w.frozen? ⟨b, 2, none⟩ = false)
    (c1 : (calls : Int) < len) (c2 : calls < 4611686018427387904) (z0 : z < 0) :
    Calls Tryz.prog 57 #[.pointer (some ⟨b, 0, none⟩), .int .i64 at', .int .i64 n] w fun e w' => e = .returned (.tuple #[.string ⟨#[]⟩, .bool false]) ∧ Rq b calls w w' := by
  have d1 : decide ((calls : Int) < (len : Int)) = true := by simp; omega
  have d2 : decide (z < 0) = true := by simp; omega
  go_enter Tryz.func57, Tryz.ntmps57
  go_wp2
  go_quiet (fail)
  go_wp2
  go_quiet (fail)
  go_wp2
  go_ret2
  exact ⟨rfl, Rq.mk' _ 0⟩

end Go.Proofs.YthlincikgdblfaaGreat

namespace Go.Proofs.YthlincikgdblfaaGreat
open Go.RowKit
set_option linter.unusedVariables false

/-- A source at block b: its bytes, its sizes, how often it was read. -/
structure Src (w : World) (b : Nat) (S : ByteArray) (v : Value) (sz : List Int) (calls : Nat) : Prop where
  c0 : w.cell? ⟨b, 0, none⟩ = some (.string S)
  c1 : w.cell? ⟨b, 1, none⟩ = some v
  c2 : w.cell? ⟨b, 2, none⟩ = some (.int .i64 (calls : Int))
  f2 : w.frozen? ⟨b, 2, none⟩ = false
  sep : ∀ a n c, v = .slice (some a) n c → a.block ≠ b
  ints : Ints w v sz
theorem Ints.grown {w w' : World} {v : Value} {zs : List Int} {r : Option Nat} (h : Ints w v zs) (G : w.grownBy w' r) (hr : ∀ a n c, v = .slice (some a) n c → r ≠ some a.block) : Ints w' v zs := by
  obtain ⟨h1, h2, a, c, h3, h4⟩ := h
  refine ⟨h1, h2, a, c, h3, ?_⟩
  rcases h4 with h4 | ⟨b, off, h5, h6⟩
  · exact Or.inl h4
  · refine Or.inr ⟨b, off, h5, fun i hi => G.cell (h6 i hi) (fun e => ?_)⟩
    subst h5
    exact hr _ _ _ h3 e.symm
theorem Rq.grown {b : Nat} {calls : Int} {w w' : World} (h : Rq b calls w w') : w.grownBy w' (some b) := by
  obtain ⟨k, l, rfl⟩ := h
  have G : (w.drewN k).grownBy ((w.drewN k).setCell ⟨b, 2, none⟩ (.int .i64 (calls + 1))) (some b) := ⟨rfl, rfl, rfl, by simp, fun i _ hi => heap_setCell_other (w.drewN k) ⟨b, 2, none⟩ i _ (fun e => hi (by simp [e]))⟩
  exact ⟨G.os, G.tape, G.output, G.size, G.block⟩
theorem Src.read {w w' : World} {b : Nat} {S : ByteArray} {v : Value} {sz : List Int} {calls : Nat} (h : Src w b S v sz calls) (hq : Rq b calls w w') : Src w' b S v sz (calls + 1) := by
  have hi := h.ints.grown hq.grown (fun a n c e e2 => h.sep a n c e (by injection e2 with e2; exact e2.symm))
  obtain ⟨k, l, rfl⟩ := hq
  have ne : ∀ i, i ≠ 2 → (⟨b, 2, none⟩ : Addr) ≠ ⟨b, i, none⟩ := fun i hi e => hi (by injection e with _ e2; exact e2.symm)
  refine ⟨?_, ?_, ?_, ?_, h.sep, hi⟩
  · exact (World.cell?_setCell_other (w.drewN k) _ _ _ (ne 0 (by decide))).trans h.c0
  · exact (World.cell?_setCell_other (w.drewN k) _ _ _ (ne 1 (by decide))).trans h.c1
  · have := World.cell?_setCell_same (w.drewN k) ⟨b, 2, none⟩ (.int .i64 ((calls : Int) + 1)) (u := .int .i64 (calls : Int)) h.c2
    have e : ((calls + 1 : Nat) : Int) = (calls : Int) + 1 := by omega
    rw [e]
    exact this
  · exact (World.frozen?_setCell (w.drewN k) _ _ _).trans h.f2
theorem Src.grown {w w' : World} {b : Nat} {S : ByteArray} {v : Value} {sz : List Int} {calls : Nat} {r : Option Nat} (h : Src w b S v sz calls) (G : w.grownBy w' r) (hb : r ≠ some b) (hr : ∀ a n c, v = .slice (some a) n c → r ≠ some a.block) : Src w' b S v sz calls := by
  have hlt : b < w.heap.size := World.block_lt_of_cell? w ⟨b, 0, none⟩ h.c0
  exact ⟨(grown_cell G hlt hb 0).trans h.c0, (grown_cell G hlt hb 1).trans h.c1, (grown_cell G hlt hb 2).trans h.c2, (grown_frozen G hlt hb 2).trans h.f2, h.sep, h.ints.grown G hr⟩
set_option maxHeartbeats 1000000 in
theorem read_all (b : Nat) (S : ByteArray) (v : Value) (sz : List Int) (calls at' : Nat) (w : World) (h : Src w b S v sz calls) (hs : S.size ≤ 4000) (hat : at' < S.size) (hc : calls < 100000000) :
    Calls Tryz.prog 57 #[.pointer (some ⟨b, 0, none⟩), .int .i64 at', .int .i64 (Rot.asked S.size at' : Nat)] w fun e w' => ((Rot.gives sz calls (Rot.asked S.size at' : Nat) < 0 ∧ e = .returned (.tuple #[.string ⟨#[]⟩, .bool false])) ∨ (∃ m : Nat, Rot.gives sz calls (Rot.asked S.size at' : Nat) = (m : Int) ∧ e = .returned (.tuple #[.string (S.extract at' (at' + m)), .bool true]))) ∧ Rq b calls w w' := by
  obtain ⟨c0, c1, c2, f2, _, hz, hzl, a, c, rfl, hcell⟩ := h
  obtain ⟨hA1, hA2, hA3⟩ := Rot.asked_pos hat
  by_cases hlt : calls < sz.length
  · have hget : sz[calls]? = some (sz[calls]'hlt) := List.getElem?_eq_getElem hlt
    rcases hcell with rfl | ⟨ab, ao, rfl, hcell⟩
    · simp at hlt
    have ck := hcell calls hlt
    have hzb := hz _ (List.getElem_mem hlt)
    have hgv : Rot.gives sz calls (Rot.asked S.size at' : Nat) = if sz[calls]'hlt < (Rot.asked S.size at' : Nat) then sz[calls]'hlt else (Rot.asked S.size at' : Nat) := by
      unfold Rot.gives
      rw [hget]
    generalize sz[calls]'hlt = z at ck hzb hgv
    by_cases hneg : z < 0
    · refine (sread_fails b S ab ao sz.length c calls at' (Rot.asked S.size at') z w c1 c2 ck f2 (by omega) (by omega) hneg).mono ?_
      rintro e w' ⟨rfl, hq⟩
      exact ⟨Or.inl ⟨by rw [hgv, if_pos (by omega)]; exact hneg, rfl⟩, hq⟩
    · obtain ⟨m, hm⟩ : ∃ m : Nat, (if z < (Rot.asked S.size at' : Nat) then z else (Rot.asked S.size at' : Nat)) = (m : Int) := by
        split
        · exact ⟨z.toNat, by omega⟩
        · exact ⟨_, rfl⟩
      have hgot : got S at' (Rot.asked S.size at' : Nat) z = m := by
        unfold got
        by_cases h1 : ((Rot.asked S.size at' : Nat) : Int) < z
        · rw [if_pos h1, if_neg (by omega)]
          rw [if_neg (by omega)] at hm
          exact hm
        · rw [if_neg h1]
          by_cases h2 : z < ((Rot.asked S.size at' : Nat) : Int)
          · rw [if_pos h2] at hm
            rw [if_neg (by omega)]
            exact hm
          · rw [if_neg h2] at hm
            rw [if_neg (by omega)]
            omega
      refine (sread_in b S ab ao sz.length c calls at' (Rot.asked S.size at') z m w c0 c1 c2 ck f2 (by omega) (by omega) (by omega) (by omega) (by omega) (by omega) (by omega) hgot).mono ?_
      rintro e w' ⟨rfl, hq⟩
      exact ⟨Or.inr ⟨m, by rw [hgv]; exact hm, rfl⟩, hq⟩
  · have hgv : Rot.gives sz calls (Rot.asked S.size at' : Nat) = ((Rot.asked S.size at' : Nat) : Int) := by
      unfold Rot.gives
      rw [List.getElem?_eq_none (by omega)]
    have hgot : got S at' (Rot.asked S.size at' : Nat) (Rot.asked S.size at' : Nat) = (Rot.asked S.size at' : Nat) := by
      unfold got
      rw [if_neg (by omega), if_neg (by omega)]
    refine (sread_past b S a sz.length c calls at' (Rot.asked S.size at') (Rot.asked S.size at') w c0 c1 c2 f2 (by omega) (by omega) (by omega) (by omega) (by omega) hgot).mono ?_
    rintro e w' ⟨rfl, hq⟩
    exact ⟨Or.inr ⟨_, hgv, rfl⟩, hq⟩
end Go.Proofs.YthlincikgdblfaaGreat

namespace Go.Proofs.YthlincikgdblfaaGreat
open Go.RowKit
set_option linter.unusedVariables false

theorem strCells_by8 (s : ByteArray) : Lib.strCells s = by8 s.data.toList := by
  unfold Lib.strCells by8
  apply List.ext_getElem
  · simp
  · intro i h1 h2
    simp
theorem extract_list (S : ByteArray) (a m : Nat) (h : a + m ≤ S.size) : S.data.toList.take a ++ (S.extract a (a + m)).data.toList = S.data.toList.take (a + m) := by
  rw [ByteArray.data_extract, Array.toList_extract, List.take_add]
  congr 1
  rw [List.extract_eq_take_drop]
  congr 1
  omega
/-- Behind some reads. -/
structure RbAt (w wr : World) (b : Nat) (S : ByteArray) (vs : Value) (sz : List Int) (at' calls no : Nat) (v : Value) : Prop where
  src : Src wr b S vs sz calls
  own : Bs wr w.heap.size v (S.data.toList.take at')
  form : ∃ g cap, v = .slice (some ⟨g, 0, none⟩) at' cap
  grown : w.grownBy wr (some b)
  reads : ∀ ok k, Rot.Reads S.size sz at' calls no ok k → Rot.Reads S.size sz 0 0 0 ok k
def RbV (w : World) (b : Nat) (S : ByteArray) (vs : Value) (sz : List Int) (fv ev : Value) (wr : World) : Prop := ∃ at' calls no : Nat, at' ≤ S.size ∧ no < 8 ∧ calls + 8 * (S.size - at') + (8 - no) ≤ 8 * S.size + 8 ∧ ev = .int .i64 (no : Int) ∧ RbAt w wr b S vs sz at' calls no fv
theorem size_any (b : Nat) (S : ByteArray) (w : World) (c0 : w.cell? ⟨b, 0, none⟩ = some (.string S)) (hs : S.size ≤ 4611686018427387904) :
    Calls Tryz.prog 26 #[.pointer (some ⟨b, 0, none⟩)] w fun e w' => e = .returned (.int .i64 (S.size : Int)) ∧ w' = w := by
  go_enter Tryz.func26, Tryz.ntmps26
  go_wp2
  go_ret
  exact ⟨rfl, rfl⟩
/-- A piece more. -/
theorem RbAt.more {w w3 w4 : World} {b gf at' m calls no : Nat} {S pp : ByteArray} {vs v' : Value} {sz : List Int} (hS : Src w3 b S vs sz calls) (hbl : b < w.heap.size) (hlow : ∀ a n c, vs = .slice (some a) n c → a.block < w.heap.size) (hlg : w.heap.size ≤ gf) (g3 : w.grownBy w3 (some b)) (hp : pp.size = m) (hex : S.data.toList.take at' ++ pp.data.toList = S.data.toList.take (at' + m)) (hle : at' + m ≤ S.size) (O : w4.ownsRow w.heap.size 5 1 v' (at' + m) (by8 (S.data.toList.take at') ++ Lib.strCells pp)) (G : w3.grownBy w4 (some gf)) (hn : ¬ v' = .slice none 0 0) (hr : ∀ ok k, Rot.Reads S.size sz (at' + m) calls no ok k → Rot.Reads S.size sz 0 0 0 ok k) : RbAt w w4 b S vs sz (at' + m) calls no v' := by
  have hcl : S.data.toList.length = S.size := by simp
  have hlen : (S.data.toList.take (at' + m)).length = at' + m := by rw [List.length_take, hcl]; omega
  refine ⟨hS.grown G (by intro e; injection e with e; omega) (fun a n c e e2 => by have := hlow a n c e; injection e2 with e2; omega), ?_, ?_, grown_trans g3 G (Or.inr ⟨_, rfl, hlg⟩), hr⟩
  · unfold Bs
    rw [hlen, ← hex, by8_append, ← strCells_by8]
    exact O
  · rcases O.2 with ⟨h1, _⟩ | ⟨g, c, _, h1, _⟩
    · exact absurd h1 hn
    · exact ⟨g, c, h1⟩
set_option maxRecDepth 100000 in
set_option maxHeartbeats 2000000 in
theorem lbytes_any (b : Nat) (S : ByteArray) (vs : Value) (sz : List Int) (w : World) (h : Src w b S vs sz 0) (hs : S.size ≤ 4000) (hlow : ∀ a n c, vs = .slice (some a) n c → a.block < w.heap.size) :
    Calls Tryz.prog 30 #[.pointer (some ⟨b, 0, none⟩)] w fun e w' => (∃ k g v, e = .returned v ∧ Rot.Reads S.size sz 0 0 0 true k ∧ Src w' b S vs sz k ∧ Vw w' g v S.data.toList ∧ w.heap.size ≤ g ∧ g < w'.heap.size ∧ w.grownBy w' (some b)) ∨ (∃ k, e = .panicked (gu 3) ∧ Rot.Reads S.size sz 0 0 0 false k ∧ Src w' b S vs sz k ∧ w.grownBy w' (some b)) := by
  obtain ⟨i0, hi, hz0, hz1, hz2⟩ := info_parts info8
  have hbl : b < w.heap.size := World.block_lt_of_cell? w ⟨b, 0, none⟩ h.c0
  have c0 := h.c0
  have HS := hide h
  have HLow := hide hlow
  clear h hlow
  have hcl : S.data.toList.length = S.size := by simp
  go_enter Tryz.func30, Tryz.ntmps30
  go_wp2_with fail
  refine (size_any b S w c0 (by omega)).mono ?_
  rintro e w1 ⟨rfl, hw1⟩
  subst hw1
  go_wp2_with (at_make; refine wpList_make_own _ rfl _ _ 45 rfl w1.heap.size 5 i0 (.int .u8 0) 1 Tryz.underlying45 hi hz0 hz1 .i64 .i64 _ S.size rfl rfl rfl ?m1 ?m2 (Nat.le_refl _) ?_)
  case m1 => rw [hz2]; omega
  case m2 => unfold maxLen; omega
  intro w2 O2 G2
  have HR0 : Hid (RbAt w1 w2 b S vs sz 0 0 0 (.slice (some ⟨w1.heap.size, 0, none⟩) 0 S.size)) := by
    refine ⟨(unhide HS).grown G2 (by simp) (fun _ _ _ _ => by simp), ?_, ⟨_, _, rfl⟩, grown_weak G2 _, fun _ _ h => h⟩
    rw [List.take_zero]
    exact O2
  clear O2 G2
  go_wp2_with fail
  go_loopw [4, 5] (fun fv ev wr => RbV w1 b S vs sz fv ev wr) (fun fv ev _ => 8 * (S.size - (match fv with | .slice _ n _ => n | _ => 0)) + (8 - (intOf ev).toNat))
  case atStart => exact ⟨0, 0, 0, Nat.zero_le _, by omega, by omega, rfl, unhide HR0⟩
  case round =>
    obtain ⟨at', calls, no, hat, hno, hm, rfl, T⟩ := hrel
    clear HR0
    obtain ⟨gf, cf, hv⟩ := T.form
    subst hv
    by_cases hlt : at' < S.size
    · obtain ⟨A, hA⟩ : ∃ A : Nat, A = Rot.asked S.size at' := ⟨_, rfl⟩
      obtain ⟨hA1, hA2, hA3⟩ := Rot.asked_pos hlt
      rw [← hA] at hA1 hA2 hA3
      have hcon := read_all b S vs sz calls at' wr T.src hs hlt (by omega)
      rw [← hA] at hcon
      have HT := hide T
      have HA := hide hA
      have hmin : min 64 ((S.size : Int) - (at' : Int)) = (A : Int) := by
        rw [hA]
        unfold Rot.asked
        omega
      clear T hA
      go_wp2_with fail
      refine hcon.mono ?_
      rintro e w3 ⟨(⟨hg, rfl⟩ | ⟨m, hg, rfl⟩), hq⟩
      · have hst : Rot.readStep S.size sz at' calls no = none := by
          unfold Rot.readStep
          rw [← unhide HA, if_pos hg]
        have HF : Hid (Rot.Reads S.size sz 0 0 0 false (calls + 1)) := (unhide HT).reads _ _ (Rot.Reads.fails _ _ _ hlt hst)
        have HSR := hide ((unhide HT).src.read hq)
        have HG3 := hide (grown_trans (unhide HT).grown hq.grown (Or.inl rfl))
        clear hcon hg hq hst hmin
        go_wp2_with fail
        refine (giveUp_any _ _).mono ?_
        rintro e w4 ⟨rfl, rfl⟩
        go_wp2_with fail
        exact ⟨rfl, Or.inr ⟨_, rfl, unhide HF, unhide HSR, unhide HG3⟩⟩
      · have hle := Rot.gives_le sz calls (A : Int)
        rw [hg] at hle
        have hmA : m ≤ A := by omega
        have hpsz : (S.extract at' (at' + m)).size = m := by rw [ByteArray.size_extract]; omega
        have HEX := hide (extract_list S at' m (by omega))
        have hsr := (unhide HT).src.read hq
        have g3 := grown_trans (unhide HT).grown hq.grown (Or.inl rfl)
        have hlg : w1.heap.size ≤ gf := ((unhide HT).own.lt (k := gf) rfl).1
        have own3 := (unhide HT).own.kept hq.grown (Or.inr (by simp [Value.ownBlock]; omega))
        have HSR := hide hsr
        have HG3 := hide g3
        have HO3 := hide own3
        generalize hpp : S.extract at' (at' + m) = pp at hpsz HEX
        have HRD := hide (unhide HT).reads
        have HG := hide hg
        clear hcon hq hsr g3 own3 hle hg HT hmin
        by_cases hm0 : m = 0
        · subst hm0
          have hd0 : decide ((0 : Int) < (pp.size : Int)) = false := by rw [hpsz]; rfl
          by_cases hn8 : no + 1 = 8
          · have hb8 : (((no : Int) + 1) == 8) = true := by simp; omega
            have hst : Rot.readStep S.size sz at' calls no = none := by
              unfold Rot.readStep
              rw [← unhide HA, unhide HG, if_neg (by omega), if_pos (by simp), if_pos hn8]
            have HF : Hid (Rot.Reads S.size sz 0 0 0 false (calls + 1)) := unhide HRD _ _ (Rot.Reads.fails _ _ _ hlt hst)
            clear hst HG HRD HA
            go_wp2_with fail
            refine (giveUp_any _ _).mono ?_
            rintro e w4 ⟨rfl, rfl⟩
            go_wp2_with fail
            exact ⟨rfl, Or.inr ⟨_, rfl, unhide HF, unhide HSR, unhide HG3⟩⟩
          · have hb8 : (((no : Int) + 1) == 8) = false := by simp; omega
            have hst : Rot.readStep S.size sz at' calls no = some (at', no + 1) := by
              unfold Rot.readStep
              rw [← unhide HA, unhide HG, if_neg (by omega), if_pos (by simp), if_neg hn8]
            have HF : Hid (∀ ok k, Rot.Reads S.size sz at' (calls + 1) (no + 1) ok k → Rot.Reads S.size sz 0 0 0 ok k) := fun ok k h => unhide HRD _ _ (Rot.Reads.goes _ _ _ _ _ _ _ hlt hst h)
            clear hst HG HRD HA
            have hown : w3.ownsRow w1.heap.size 5 1 (.slice (some ⟨gf, 0, none⟩) at' cf) at' (by8 (S.data.toList.take at')) := by
              have := unhide HO3
              unfold Bs at this
              rw [List.length_take, hcl, Nat.min_eq_left hat] at this
              exact this
            have hb3 : w1.heap.size ≤ w3.heap.size := (unhide HG3).size
            go_wp2_with (at_builtin; refine Lib.wpList_append_own_string _ rfl (.tmp 40) (.tmp 41) 45 9 rfl w1.heap.size 5 i0 Tryz.underlying45 Tryz.underlying9 hi hz0 hz1 hz2 _ at' (by8 (S.data.toList.take at')) rfl hown pp rfl ?a1 ?a2 hb3 ?_)
            case a1 => unfold maxLen; omega
            case a2 => omega
            intro v' w4 O4 G4 N4
            have HM := hide (RbAt.more (no := (no + 1)) (unhide HSR) hbl (unhide HLow) hlg (unhide HG3) hpsz (unhide HEX) (by omega) O4 G4 N4 (unhide HF))
            obtain ⟨gf2, cf2, hv2⟩ := (unhide HM).form
            clear O4 G4 N4 hown HO3 HSR HG3 HEX
            subst hv2
            go_wp2_with fail
            go_roundw
            case rel => exact ⟨at' + 0, calls + 1, (no + 1), by omega, by omega, by omega, by go_num, unhide HM⟩
            case measure => simp [intOf]; omega
        · have hd0 : decide ((0 : Int) < (pp.size : Int)) = true := by rw [hpsz]; simp; omega
          have hst : Rot.readStep S.size sz at' calls no = some (at' + m, 0) := by
            unfold Rot.readStep
            rw [← unhide HA, unhide HG, if_neg (by omega), if_neg (by omega)]
            simp
          have HF : Hid (∀ ok k, Rot.Reads S.size sz (at' + m) (calls + 1) 0 ok k → Rot.Reads S.size sz 0 0 0 ok k) := fun ok k h => unhide HRD _ _ (Rot.Reads.goes _ _ _ _ _ _ _ hlt hst h)
          clear hst HG HRD HA
          have hown : w3.ownsRow w1.heap.size 5 1 (.slice (some ⟨gf, 0, none⟩) at' cf) at' (by8 (S.data.toList.take at')) := by
            have := unhide HO3
            unfold Bs at this
            rw [List.length_take, hcl, Nat.min_eq_left hat] at this
            exact this
          have hb3 : w1.heap.size ≤ w3.heap.size := (unhide HG3).size
          go_wp2_with (at_builtin; refine Lib.wpList_append_own_string _ rfl (.tmp 40) (.tmp 41) 45 9 rfl w1.heap.size 5 i0 Tryz.underlying45 Tryz.underlying9 hi hz0 hz1 hz2 _ at' (by8 (S.data.toList.take at')) rfl hown pp rfl ?a1 ?a2 hb3 ?_)
          case a1 => unfold maxLen; omega
          case a2 => omega
          intro v' w4 O4 G4 N4
          have HM := hide (RbAt.more (no := 0) (unhide HSR) hbl (unhide HLow) hlg (unhide HG3) hpsz (unhide HEX) (by omega) O4 G4 N4 (unhide HF))
          obtain ⟨gf2, cf2, hv2⟩ := (unhide HM).form
          clear O4 G4 N4 hown HO3 HSR HG3 HEX
          subst hv2
          go_wp2_with fail
          go_roundw
          case rel => exact ⟨at' + m, calls + 1, 0, by omega, by omega, by omega, by go_num, unhide HM⟩
          case measure => simp [intOf]; omega
    · have hat' : at' = S.size := by omega
      subst hat'
      have hown := T.own
      rw [show S.data.toList.take S.size = S.data.toList from List.take_of_length_le (by omega)] at hown
      have HV : Hid (Vw wr gf (.slice (some ⟨gf, 0, none⟩) S.size cf) S.data.toList) := by
        have hf := hown.2
        rcases hf with ⟨h1, _⟩ | ⟨g, c, cur, h1, h2, h3, h4, h5, h6⟩
        · cases h1
        · cases h1
          refine ⟨0, cf, by rw [hcl], by omega, by omega, fun j hj => ?_⟩
          rw [Nat.zero_add]
          have hown2 := hown
          rw [← hcl] at hown2
          exact Bs.cell hown2 j hj
      have hlt2 := hown.lt (k := gf) rfl
      have HT := hide T
      have HRD : Hid (Rot.Reads S.size sz 0 0 0 true calls) := T.reads _ _ (Rot.Reads.done _ _ _ (Nat.le_refl _))
      clear T hown
      go_wp2_with fail
      go_ret
      exact Or.inl ⟨calls, gf, _, rfl, unhide HRD, (unhide HT).src, unhide HV, hlt2.1, hlt2.2, (unhide HT).grown⟩
end Go.Proofs.YthlincikgdblfaaGreat
