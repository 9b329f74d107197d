import Derived.Test.YthlincikgdblfaaGreatV09
import Derived.Test.YthlincikgdblfaaGreatV01
import Derived.Test.YthlincikgdblfaaGreatProg
import Derived.OwnWalk
import Derived.WalkKit
import Derived.Deep.QuietTactic
import Derived.BigQuiet
import Derived.WalkLawsBesides
import Derived.WalkSpells
import Derived.Test.YthlincikgdblfaaGreatV08
import Derived.Lib.AppendStr
import Derived.Laws.OwnMore
namespace Go.Proofs.YthlincikgdblfaaGreat
set_option linter.unusedVariables false
namespace Rot
theorem gives_at {sz : List Int} {c : Nat} {z : Int} (h : sz[c]? = some z) (n : Int) : gives sz c n = if z < n then z else n := by
  unfold gives
  rw [h]
theorem gives_past {sz : List Int} {c : Nat} (h : sz[c]? = none) (n : Int) : gives sz c n = n := by
  unfold gives
  rw [h]
theorem asked_is {len at' : Nat} (h : at' < len) : 1 ≤ asked len at' ∧ asked len at' ≤ 64 ∧ at' + asked len at' ≤ len := by unfold asked; omega
/-- A read that gives something. -/
theorem reads_some {len : Nat} {sz : List Int} {at' calls no : Nat} (h : at' < len) {g : Nat} (hg : 1 ≤ g) (e : gives sz calls (asked len at') = (g : Int)) {ok : Bool} {k : Nat} (r : Reads len sz (at' + g) (calls + 1) 0 ok k) : Reads len sz at' calls no ok k := by
  refine Reads.goes at' calls no (at' + g) 0 ok k h ?_ r
  unfold readStep
  rw [e, if_neg (by omega), if_neg (by omega)]
  simp
/-- Some reads that give something each. -/
theorem reads_few {len : Nat} {sz : List Int} : ∀ (f : List Nat) (rest : List Int) (at' calls : Nat), (∀ x ∈ f, 1 ≤ x) → sz.drop calls = f.map (fun (n : Nat) => (n : Int)) ++ rest → at' + 64 * f.length < len → ∃ a, a < len ∧ ∀ ok k, Reads len sz a (calls + f.length) 0 ok k → Reads len sz at' calls 0 ok k
  | [], rest, at', calls, _, _, h => ⟨at', by simpa using h, fun ok k r => by simpa using r⟩
  | x :: f, rest, at', calls, hf, hd, h => by
    have hx := hf x (by simp)
    have hc : sz[calls]? = some (x : Int) := by
      have e : sz[calls]? = (sz.drop calls)[0]? := by simp
      rw [e, hd]
      rfl
    have hd2 : sz.drop (calls + 1) = f.map (fun (n : Nat) => (n : Int)) ++ rest := by
      rw [← List.drop_drop, hd]
      rfl
    simp only [List.length_cons] at h ⊢
    obtain ⟨a1, a2, a3⟩ := asked_is (len := len) (at' := at') (by omega)
    obtain ⟨g, hg1, hg2, hg3⟩ : ∃ g : Nat, 1 ≤ g ∧ g ≤ 64 ∧ gives sz calls (asked len at') = (g : Int) := by
      rw [gives_at hc]
      by_cases hlt : (x : Int) < (asked len at' : Nat)
      · exact ⟨x, hx, by omega, by rw [if_pos hlt]⟩
      · exact ⟨asked len at', a1, a2, by rw [if_neg hlt]⟩
    obtain ⟨a, ha, hr⟩ := reads_few (len := len) (sz := sz) f rest (at' + g) (calls + 1) (fun y hy => hf y (List.mem_cons_of_mem _ hy)) hd2 (by omega)
    refine ⟨a, ha, fun ok k r => reads_some (by omega) hg1 hg3 (hr ok k ?_)⟩
    rwa [show calls + 1 + f.length = calls + (f.length + 1) by omega]
/-- Reads that give nothing, fewer than eight. -/
theorem reads_zeros {len : Nat} {sz : List Int} {at' : Nat} (h : at' < len) : ∀ (z : Nat) (rest : List Int) (calls no : Nat), sz.drop calls = List.replicate z 0 ++ rest → no + z < 8 → ∀ ok k, Reads len sz at' (calls + z) (no + z) ok k → Reads len sz at' calls no ok k
  | 0, _, calls, no, _, _, ok, k, r => by simpa using r
  | z + 1, rest, calls, no, hd, hz, ok, k, r => by
    have hc : sz[calls]? = some 0 := by
      have e : sz[calls]? = (sz.drop calls)[0]? := by simp
      rw [e, hd]
      simp [List.replicate_succ]
    have hd2 : sz.drop (calls + 1) = List.replicate z 0 ++ rest := by
      rw [← List.drop_drop, hd]
      simp [List.replicate_succ]
    have a1 := (asked_is h).1
    refine Reads.goes at' calls no at' (no + 1) ok k h ?_ (reads_zeros h z rest (calls + 1) (no + 1) hd2 (by omega) ok k ?_)
    · have hg : gives sz calls (asked len at') = 0 := by rw [gives_at hc, if_pos (by omega)]
      unfold readStep
      rw [hg, if_neg (by omega), if_pos rfl, if_neg (by omega)]
    · rwa [show calls + 1 + z = calls + (z + 1) by omega, show no + 1 + z = no + (z + 1) by omega]
/-- Reads that give nothing, eight of them. -/
theorem reads_eight {len : Nat} {sz : List Int} {at' : Nat} (h : at' < len) (z : Nat) (rest : List Int) (calls : Nat) (hd : sz.drop calls = List.replicate z 0 ++ rest) (hz : 8 ≤ z) : Reads len sz at' calls 0 false (calls + 8) := by
  have e : List.replicate z (0 : Int) = List.replicate 7 0 ++ List.replicate (z - 7) 0 := by rw [List.replicate_append_replicate]; congr 1; omega
  rw [e, List.append_assoc] at hd
  refine reads_zeros h 7 _ calls 0 hd (by omega) false _ ?_
  refine Reads.fails at' (calls + 7) (0 + 7) h ?_
  have hc : sz[calls + 7]? = some 0 := by
    have e : sz[calls + 7]? = (sz.drop calls)[7]? := by simp
    rw [e, hd, List.getElem?_append_right (by simp), List.length_replicate, List.getElem?_append_left (by simp; omega), List.getElem?_replicate]
    rw [if_pos (by omega)]
  have a1 := (asked_is h).1
  have hg : gives sz (calls + 7) (asked len at') = 0 := by rw [gives_at hc, if_pos (by omega)]
  unfold readStep
  rw [hg, if_neg (by omega), if_pos rfl, if_pos rfl]
/-- A read that fails. -/
theorem reads_minus {len : Nat} {sz : List Int} {at' calls no : Nat} (h : at' < len) (hc : sz[calls]? = some (-1)) : Reads len sz at' calls no false (calls + 1) := by
  refine Reads.fails at' calls no h ?_
  have hg : gives sz calls (asked len at') = -1 := by rw [gives_at hc, if_pos (by omega)]
  unfold readStep
  rw [hg, if_pos (by omega)]
/-- With no more sizes all is read. -/
theorem reads_rest {len : Nat} {sz : List Int} : ∀ (m at' calls no : Nat), len - at' ≤ m → sz.length ≤ calls → ∃ k, Reads len sz at' calls no true k
  | 0, at', calls, no, hm, _ => ⟨calls, Reads.done at' calls no (by omega)⟩
  | m + 1, at', calls, no, hm, hl => by
    by_cases h : at' < len
    · obtain ⟨a1, a2, a3⟩ := asked_is h
      obtain ⟨k, r⟩ := reads_rest (len := len) (sz := sz) m (at' + asked len at') (calls + 1) 0 (by omega) (by omega)
      exact ⟨k, reads_some h a1 (gives_past (List.getElem?_eq_none hl) _) r⟩
    · exact ⟨calls, Reads.done at' calls no (by omega)⟩
end Rot
end Go.Proofs.YthlincikgdblfaaGreat

namespace Go.Proofs.YthlincikgdblfaaGreat
open Go.RowKit
set_option linter.unusedVariables false

/-- A file was given up, for that reason. -/
def gu (n : Int) : List PanicEntry := [{ v := .iface 93 (.agg #[.int .i64 n]), recovered := false }]
theorem giveUp_any (n : Int) (w : World) : Calls Tryz.prog 58 #[.int .i64 n] w fun e w' => e = .panicked (gu n) ∧ w' = w := by
  go_enter Tryz.func58, Tryz.ntmps58
  go_wp2
  exact ⟨rfl, rfl, rfl⟩
theorem must_yes (w : World) : Calls Tryz.prog 76 #[.bool true] w fun e w' => e = .returned (.tuple #[]) ∧ w' = w := by
  go_enter Tryz.func76, Tryz.ntmps76
  go_wp2
  go_end0
  exact ⟨rfl, rfl⟩
theorem must_no (w : World) : Calls Tryz.prog 76 #[.bool false] w fun e w' => e = .panicked (gu 4) ∧ w' = w := by
  go_enter Tryz.func76, Tryz.ntmps76
  go_wp2_with fail
  refine (giveUp_any _ _).mono ?_
  rintro e w' ⟨rfl, rfl⟩
  go_wp2_with fail
  exact ⟨rfl, rfl, rfl⟩

/-- THE SLICE v, A PIECE OF BLOCK g, READS THE BYTES l. -/
def Vw (w : World) (g : Nat) (v : Value) (l : List UInt8) : Prop := ∃ off cap, v = .slice (some ⟨g, off, none⟩) l.length cap ∧ l.length ≤ cap ∧ l.length ≤ 100000 ∧ ∀ j (hj : j < l.length), w.cell? ⟨g, off + j, none⟩ = some (.int .u8 ((l[j]'hj).toNat : Int))
theorem Vw.kept {w w' : World} {g : Nat} {v : Value} {l : List UInt8} (h : Vw w g v l) (hk : ∀ j, w'.cell? ⟨g, j, none⟩ = w.cell? ⟨g, j, none⟩) : Vw w' g v l := by
  obtain ⟨off, cap, h1, h2, h3, h4⟩ := h
  exact ⟨off, cap, h1, h2, h3, fun j hj => (hk _).trans (h4 j hj)⟩
theorem Vw.setCell {w : World} {g : Nat} {v : Value} {l : List UInt8} (h : Vw w g v l) {b j : Nat} {x : Value} (hb : b ≠ g) : Vw (w.setCell ⟨b, j, none⟩ x) g v l :=
  h.kept fun k => World.cell?_setCell_other _ _ _ _ (fun e => hb (by injection e))
theorem Vw.grown {w w' : World} {g : Nat} {v : Value} {l : List UInt8} {r : Option Nat} (h : Vw w g v l) (hg : w.grownBy w' r) (hne : r ≠ some g) (hlt : g < w.heap.size) : Vw w' g v l :=
  h.kept fun k => by
    have := hg.block g hlt (fun e => hne e.symm)
    unfold World.cell?
    simp only [this]
/-- The reader at block b still has the bytes l of block g to read. -/
structure Rdr (w : World) (b g : Nat) (v : Value) (l : List UInt8) : Prop where
  cell : w.cell? ⟨b, 0, none⟩ = some v
  free : w.frozen? ⟨b, 0, none⟩ = false
  view : Vw w g v l
  ne : b ≠ g
theorem Rdr.set {w : World} {b g : Nat} {v v' : Value} {l l' : List UInt8} (h : Rdr w b g v l) (hv : Vw w g v' l') : Rdr (w.setCell ⟨b, 0, none⟩ v') b g v' l' :=
  ⟨World.cell?_setCell_same _ _ _ h.cell, (World.frozen?_setCell _ _ _ _).trans h.free, hv.setCell h.ne, h.ne⟩
theorem grown_cell {w w' : World} {r : Option Nat} (h : w.grownBy w' r) {b : Nat} (hb : b < w.heap.size) (hne : r ≠ some b) (j : Nat) : w'.cell? ⟨b, j, none⟩ = w.cell? ⟨b, j, none⟩ := World.cell?_of_block (a := ⟨b, j, none⟩) (h.block b hb (fun e => hne e.symm))
theorem grown_frozen {w w' : World} {r : Option Nat} (h : w.grownBy w' r) {b : Nat} (hb : b < w.heap.size) (hne : r ≠ some b) (j : Nat) : w'.frozen? ⟨b, j, none⟩ = w.frozen? ⟨b, j, none⟩ := World.frozen?_of_block (a := ⟨b, j, none⟩) (h.block b hb (fun e => hne e.symm))
theorem Rdr.lt {w : World} {b g : Nat} {v : Value} {l : List UInt8} (h : Rdr w b g v l) : b < w.heap.size := World.block_lt_of_cell? w ⟨b, 0, none⟩ h.cell
theorem Rdr.grown {w w' : World} {b g : Nat} {v : Value} {l : List UInt8} {r : Option Nat} (h : Rdr w b g v l) (hg : w.grownBy w' r) (hb : r ≠ some b) (hne : r ≠ some g) (hlt : g < w.heap.size) : Rdr w' b g v l :=
  ⟨(grown_cell hg h.lt hb 0).trans h.cell, (grown_frozen hg h.lt hb 0).trans h.free, h.view.grown hg hne hlt, h.ne⟩
theorem addr_add2 (g o j : Nat) : ((⟨g, o, none⟩ : Addr).add j) = ⟨g, o + j, none⟩ := by
  unfold Addr.add
  by_cases h0 : j = 0
  · subst h0; rfl
  · simp [h0]
/-- Slicing a piece: its head, its rest. -/
theorem slice_to (g off n cap c : Nat) (hc : c ≤ cap) (w : World) : (Instr.sliceAt 45 (.slice (some ⟨g, off, none⟩) n cap) none (some (.int .i64 (c : Int))) none).run Tryz.prog w = .ok (.slice (some ⟨g, off, none⟩) c cap) w := by
  have h : ¬ cap < c := by omega
  simp [go_sem, Tryz.underlying45, h]
theorem slice_from (g off n cap c : Nat) (hc : c ≤ n) (w : World) : (Instr.sliceAt 45 (.slice (some ⟨g, off, none⟩) n cap) (some (.int .i64 (c : Int))) none none).run Tryz.prog w = .ok (.slice (some ⟨g, if cap = c then off else off + c, none⟩) (n - c) (cap - c)) w := by
  have h : ¬ n < c := by omega
  by_cases e : cap = c
  · simp [go_sem, Tryz.underlying45, h, e]
  · simp [go_sem, Tryz.underlying45, h, e]
theorem Vw.take {w : World} {g off n cap c : Nat} {l : List UInt8} (h : Vw w g (.slice (some ⟨g, off, none⟩) n cap) l) (hc : c ≤ l.length) : Vw w g (.slice (some ⟨g, off, none⟩) c cap) (l.take c) := by
  obtain ⟨o, cp, h1, h2, h3, h4⟩ := h
  cases h1
  refine ⟨_, _, by rw [List.length_take, Nat.min_eq_left hc], by rw [List.length_take]; omega, by rw [List.length_take]; omega, fun j hj => ?_⟩
  rw [List.length_take] at hj
  rw [List.getElem_take]
  exact h4 j (by omega)
theorem Vw.drop {w : World} {g off n cap c : Nat} {l : List UInt8} (h : Vw w g (.slice (some ⟨g, off, none⟩) n cap) l) (hc : c ≤ l.length) : Vw w g (.slice (some ⟨g, if cap = c then off else off + c, none⟩) (n - c) (cap - c)) (l.drop c) := by
  obtain ⟨o, cp, h1, h2, h3, h4⟩ := h
  cases h1
  refine ⟨_, _, by rw [List.length_drop], by rw [List.length_drop]; omega, by rw [List.length_drop]; omega, fun j hj => ?_⟩
  rw [List.length_drop] at hj
  rw [List.getElem_drop, if_neg (by omega)]
  have := h4 (c + j) (by omega)
  rw [← Nat.add_assoc] at this
  exact this

theorem newReader_any (a : Option Addr) (n c : Nat) (w : World) : Calls Tryz.prog 47 #[.slice a n c] w fun e w' => e = .returned (.pointer (some ⟨w.heap.size, 0, none⟩)) ∧ w' = w.alloc (.cells #[.slice a n c] 134) := by
  go_enter Tryz.func47, Tryz.ntmps47
  go_wp2
  go_ret
  exact ⟨rfl, rfl⟩
/-- What was taken: u; the reader has the rest. -/
def Got (w w' : World) (b g : Nat) (u : Value) (l : List UInt8) (c : Nat) : Prop := Vw w g u (l.take c) ∧ ∃ v', Vw w g v' (l.drop c) ∧ w' = w.setCell ⟨b, 0, none⟩ v'
theorem bytes_yes (b g : Nat) (v : Value) (l : List UInt8) (c : Nat) (w : World) (h : Rdr w b g v l) (hc : c ≤ l.length) :
    Calls Tryz.prog 51 #[.pointer (some ⟨b, 0, none⟩), .int .i64 c] w fun e w' => ∃ u, e = .returned u ∧ Got w w' b g u l c := by
  obtain ⟨hcell, hfree, hview, hne⟩ := h
  have HV := hide hview
  obtain ⟨off, cap, rfl, hl, hcap, _⟩ := hview
  have s1 := slice_to g off l.length cap c (by omega)
  have s2 := slice_from g off l.length cap c hc
  have HD := hide ((unhide HV).drop hc)
  generalize (if cap = c then off else off + c) = off2 at s2 HD
  have hd : decide (c ≤ l.length) = true := by simp; omega
  go_enter Tryz.func51, Tryz.ntmps51
  go_wp2_with fail
  refine (must_yes _).mono ?_
  rintro e w0 ⟨rfl, hw0⟩
  subst hw0
  go_wp2_with fail
  go_ret
  exact ⟨_, rfl, (unhide HV).take hc, _, unhide HD, rfl⟩
theorem bytes_no (b g : Nat) (v : Value) (l : List UInt8) (c : Nat) (w : World) (h : Rdr w b g v l) (hc : l.length < c) :
    Calls Tryz.prog 51 #[.pointer (some ⟨b, 0, none⟩), .int .i64 c] w fun e w' => e = .panicked (gu 4) ∧ w' = w := by
  obtain ⟨hcell, hfree, hview, hne⟩ := h
  obtain ⟨off, cap, rfl, hl, hcap, _⟩ := hview
  have hd : decide (c ≤ l.length) = false := by simp; omega
  go_enter Tryz.func51, Tryz.ntmps51
  go_wp2_with fail
  refine (must_no _).mono ?_
  rintro e w0 ⟨rfl, hw0⟩
  subst hw0
  go_wp2_with fail
  exact ⟨rfl, rfl, rfl⟩
theorem end_yes (b g : Nat) (v : Value) (w : World) (h : Rdr w b g v []) :
    Calls Tryz.prog 53 #[.pointer (some ⟨b, 0, none⟩)] w fun e w' => e = .returned (.tuple #[]) ∧ w' = w := by
  obtain ⟨hcell, hfree, hview, hne⟩ := h
  obtain ⟨off, cap, rfl, hl, hcap, _⟩ := hview
  go_enter Tryz.func53, Tryz.ntmps53
  go_wp2_with fail
  refine (must_yes _).mono ?_
  rintro e w0 ⟨rfl, hw0⟩
  subst hw0
  go_wp2_with fail
  go_end0
  exact ⟨rfl, rfl⟩
theorem end_no (b g : Nat) (v : Value) (l : List UInt8) (w : World) (h : Rdr w b g v l) (hl0 : 0 < l.length) :
    Calls Tryz.prog 53 #[.pointer (some ⟨b, 0, none⟩)] w fun e w' => e = .panicked (gu 4) ∧ w' = w := by
  obtain ⟨hcell, hfree, hview, hne⟩ := h
  obtain ⟨off, cap, rfl, hl, hcap, _⟩ := hview
  have hd : ((l.length : Int) == 0) = false := by simp; intro e; rw [e] at hl0; simp at hl0
  go_enter Tryz.func53, Tryz.ntmps53
  go_wp2_with fail
  refine (must_no _).mono ?_
  rintro e w0 ⟨rfl, hw0⟩
  subst hw0
  go_wp2_with fail
  exact ⟨rfl, rfl, rfl⟩
end Go.Proofs.YthlincikgdblfaaGreat

namespace Go.Proofs.YthlincikgdblfaaGreat
open Go.RowKit
set_option linter.unusedVariables false

/-- What a read leaves: the count of calls has turned, by one. -/
def Rq (b : Nat) (calls : Int) (w w' : World) : Prop := ∃ k l, w' = ((w.drewN k).setCell ⟨b, 2, none⟩ (.int .i64 (calls + 1))).drewN l
theorem Rq.mk' {b : Nat} {calls : Int} {w : World} (k l : Nat) : Rq b calls w (((w.drewN k).setCell ⟨b, 2, none⟩ (.int .i64 (calls + 1))).drewN l) := ⟨k, l, rfl⟩
/-- How many bytes a read gives. -/
def got (s : ByteArray) (at' : Nat) (n z : Int) : Int := if (s.size : Int) - at' < (if n < z then n else z) then (s.size : Int) - at' else (if n < z then n else z)

set_option maxHeartbeats 400000 in
theorem sread_in (b : Nat) (s : ByteArray) (ab ao : Nat) (len cap : Nat) (calls : Nat) (at' n : Nat) (z : Int) (m : Nat) (w : World)
    (h1 : w.cell? ⟨b, 0, none⟩ = some (.string s)) (h2 : w.cell? ⟨b, 1, none⟩ = some (.slice (some ⟨ab, ao, none⟩) len cap)) (h3 : w.cell? ⟨b, 2, none⟩ = some (.int .i64 calls))
    (h4 : w.cell? ⟨ab, ao + calls, none⟩ = some (.int .i64 z))
    (hf : w.frozen? ⟨b, 2, none⟩ = false) (hs : s.size ≤ 4611686018427387904)
    (c1 : (calls : Int) < len) (c2 : calls < 4611686018427387904) (a1 : at' ≤ s.size) (n1 : n ≤ 4611686018427387904) (z0 : 0 ≤ z) (z1 : z ≤ 9223372036854775807) 
    (hm : got s at' n z = m) :
    Calls Tryz.prog 57 #[.pointer (some ⟨b, 0, none⟩), .int .i64 at', .int .i64 n] w fun e w' => e = .returned (.tuple #[.string (s.extract at' (at' + m)), .bool true]) ∧ Rq b calls w w' := by
  have hb : at' + m ≤ s.size := by unfold got at hm; split at hm <;> (try split at hm) <;> omega
  have hsl : ∀ w, (Instr.slice 9 (.string s) (some (.int .i64 (at' : Int))) (some (.int .i64 ((at' : Int) + (if (s.size : Int) - at' < (if (n : Int) < z then (n : Int) else z) then (s.size : Int) - at' else (if (n : Int) < z then (n : Int) else z))))) none).run Tryz.prog w = .ok (.string (s.extract at' (at' + m))) w := by
    intro w
    have := run_slice_string (P := Tryz.prog) w 9 s .i64 .i64 (at' : Int) ((at' : Int) + (m : Int)) Tryz.underlying9 (by omega) (by omega) (by omega)
    unfold got at hm
    rw [hm]
    rw [this]
    congr 3
  clear hb
  have HM : Hid (got s at' n z = m) := hm
  clear hm
  have d1 : decide ((calls : Int) < (len : Int)) = true := by simp; omega
  have d2 : decide (z < 0) = false := by simp; omega
  have d4 : decide (s.size < at') = false := by simp; omega
  go_enter Tryz.func57, Tryz.ntmps57
  go_wp2
  go_quiet (fail)
  go_wp2
  go_quiet (fail)
  go_wp2
  go_quiet (fail)
  go_wp2
  all_goals (go_ret2; exact ⟨rfl, Rq.mk' _ _⟩)
set_option maxHeartbeats 400000 in
theorem sread_past (b : Nat) (s : ByteArray) (a : Option Addr) (len cap : Nat) (calls : Nat) (at' n : Nat) (m : Nat) (w : World)
    (h1 : w.cell? ⟨b, 0, none⟩ = some (.string s)) (h2 : w.cell? ⟨b, 1, none⟩ = some (.slice a len cap)) (h3 : w.cell? ⟨b, 2, none⟩ = some (.int .i64 calls))
    (hf : w.frozen? ⟨b, 2, none⟩ = false) (hs : s.size ≤ 4611686018427387904)
    (c1 : (len : Int) ≤ calls) (c2 : calls < 4611686018427387904) (a1 : at' ≤ s.size) (n1 : n ≤ 4611686018427387904) 
    (hm : got s at' n n = m) :
    Calls Tryz.prog 57 #[.pointer (some ⟨b, 0, none⟩), .int .i64 at', .int .i64 n] w fun e w' => e = .returned (.tuple #[.string (s.extract at' (at' + m)), .bool true]) ∧ Rq b calls w w' := by
  have hb : at' + m ≤ s.size := by unfold got at hm; split at hm <;> (try split at hm) <;> omega
  have hsl : ∀ w, (Instr.slice 9 (.string s) (some (.int .i64 (at' : Int))) (some (.int .i64 ((at' : Int) + (if (s.size : Int) - at' < (n : Int) then (s.size : Int) - at' else (n : Int))))) none).run Tryz.prog w = .ok (.string (s.extract at' (at' + m))) w := by
    intro w
    have := run_slice_string (P := Tryz.prog) w 9 s .i64 .i64 (at' : Int) ((at' : Int) + (m : Int)) Tryz.underlying9 (by omega) (by omega) (by omega)
    have hm2 : (if (s.size : Int) - at' < (n : Int) then (s.size : Int) - at' else (n : Int)) = m := by unfold got at hm; simpa using hm
    rw [hm2]
    rw [this]
    congr 3
  clear hb
  have HM : Hid (got s at' n n = m) := hm
  clear hm
  have d1 : decide ((calls : Int) < (len : Int)) = false := by simp; omega
  have d2 : decide ((n : Int) < 0) = false := by simp
  have d4 : decide (s.size < at') = false := by simp; omega
  go_enter Tryz.func57, Tryz.ntmps57
  go_wp2
  go_quiet (fail)
  go_wp2
  go_quiet (fail)
  go_wp2
  all_goals (go_ret2; exact ⟨rfl, Rq.mk' _ _⟩)

set_option maxHeartbeats 400000 in
theorem sread_fails (b : Nat) (s : ByteArray) (ab ao : Nat) (len cap : Nat) (calls : Nat) (at' n : Nat) (z : Int) (w : World)
    (h2 : w.cell? ⟨b, 1, none⟩ = some (.slice (some ⟨ab, ao, none⟩) len cap)) (h3 : w.cell? ⟨b, 2, none⟩ = some (.int .i64 calls))
    (h4 : w.cell? ⟨ab, ao + calls, none⟩ = some (.int .i64 z))
    (hf : w.frozen? ⟨b, 2, none⟩ = false)
    (c1 : (calls : Int) < len) (c2 : calls < 4611686018427387904) (z0 : z < 0) :
    Calls Tryz.prog 57 #[.pointer (some ⟨b, 0, none⟩), .int .i64 at', .int .i64 n] w fun e w' => e = .returned (.tuple #[.string ⟨#[]⟩, .bool false]) ∧ Rq b calls w w' := by
  have d1 : decide ((calls : Int) < (len : Int)) = true := by simp; omega
  have d2 : decide (z < 0) = true := by simp; omega
  go_enter Tryz.func57, Tryz.ntmps57
  go_wp2
  go_quiet (fail)
  go_wp2
  go_quiet (fail)
  go_wp2
  go_ret2
  exact ⟨rfl, Rq.mk' _ 0⟩

end Go.Proofs.YthlincikgdblfaaGreat

namespace Go.Proofs.YthlincikgdblfaaGreat
open Go.RowKit
set_option linter.unusedVariables false

/-- A source at block b: its bytes, its sizes, how often it was read. -/
structure Src (w : World) (b : Nat) (S : ByteArray) (v : Value) (sz : List Int) (calls : Nat) : Prop where
  c0 : w.cell? ⟨b, 0, none⟩ = some (.string S)
  c1 : w.cell? ⟨b, 1, none⟩ = some v
  c2 : w.cell? ⟨b, 2, none⟩ = some (.int .i64 (calls : Int))
  f2 : w.frozen? ⟨b, 2, none⟩ = false
  f0 : w.frozen? ⟨b, 0, none⟩ = false
  sep : ∀ a n c, v = .slice (some a) n c → a.block ≠ b
  ints : Ints w v sz
theorem Ints.grown {w w' : World} {v : Value} {zs : List Int} {r : Option Nat} (h : Ints w v zs) (G : w.grownBy w' r) (hr : ∀ a n c, v = .slice (some a) n c → r ≠ some a.block) : Ints w' v zs := by
  obtain ⟨h1, h2, a, c, h3, h4⟩ := h
  refine ⟨h1, h2, a, c, h3, ?_⟩
  rcases h4 with h4 | ⟨b, off, h5, h6⟩
  · exact Or.inl h4
  · refine Or.inr ⟨b, off, h5, fun i hi => G.cell (h6 i hi) (fun e => ?_)⟩
    subst h5
    exact hr _ _ _ h3 e.symm
theorem Rq.grown {b : Nat} {calls : Int} {w w' : World} (h : Rq b calls w w') : w.grownBy w' (some b) := by
  obtain ⟨k, l, rfl⟩ := h
  have G : (w.drewN k).grownBy ((w.drewN k).setCell ⟨b, 2, none⟩ (.int .i64 (calls + 1))) (some b) := ⟨rfl, rfl, rfl, by simp, fun i _ hi => heap_setCell_other (w.drewN k) ⟨b, 2, none⟩ i _ (fun e => hi (by simp [e]))⟩
  exact ⟨G.os, G.tape, G.output, G.size, G.block⟩
theorem Src.read {w w' : World} {b : Nat} {S : ByteArray} {v : Value} {sz : List Int} {calls : Nat} (h : Src w b S v sz calls) (hq : Rq b calls w w') : Src w' b S v sz (calls + 1) := by
  have hi := h.ints.grown hq.grown (fun a n c e e2 => h.sep a n c e (by injection e2 with e2; exact e2.symm))
  obtain ⟨k, l, rfl⟩ := hq
  have ne : ∀ i, i ≠ 2 → (⟨b, 2, none⟩ : Addr) ≠ ⟨b, i, none⟩ := fun i hi e => hi (by injection e with _ e2; exact e2.symm)
  refine ⟨?_, ?_, ?_, ?_, (World.frozen?_setCell (w.drewN k) _ _ _).trans h.f0, h.sep, hi⟩
  · exact (World.cell?_setCell_other (w.drewN k) _ _ _ (ne 0 (by decide))).trans h.c0
  · exact (World.cell?_setCell_other (w.drewN k) _ _ _ (ne 1 (by decide))).trans h.c1
  · have := World.cell?_setCell_same (w.drewN k) ⟨b, 2, none⟩ (.int .i64 ((calls : Int) + 1)) (u := .int .i64 (calls : Int)) h.c2
    have e : ((calls + 1 : Nat) : Int) = (calls : Int) + 1 := by omega
    rw [e]
    exact this
  · exact (World.frozen?_setCell (w.drewN k) _ _ _).trans h.f2
theorem Src.grown {w w' : World} {b : Nat} {S : ByteArray} {v : Value} {sz : List Int} {calls : Nat} {r : Option Nat} (h : Src w b S v sz calls) (G : w.grownBy w' r) (hb : r ≠ some b) (hr : ∀ a n c, v = .slice (some a) n c → r ≠ some a.block) : Src w' b S v sz calls := by
  have hlt : b < w.heap.size := World.block_lt_of_cell? w ⟨b, 0, none⟩ h.c0
  exact ⟨(grown_cell G hlt hb 0).trans h.c0, (grown_cell G hlt hb 1).trans h.c1, (grown_cell G hlt hb 2).trans h.c2, (grown_frozen G hlt hb 2).trans h.f2, (grown_frozen G hlt hb 0).trans h.f0, h.sep, h.ints.grown G hr⟩
set_option maxHeartbeats 1000000 in
theorem read_all (b : Nat) (S : ByteArray) (v : Value) (sz : List Int) (calls at' : Nat) (w : World) (h : Src w b S v sz calls) (hs : S.size ≤ 4000) (hat : at' < S.size) (hc : calls < 100000000) :
    Calls Tryz.prog 57 #[.pointer (some ⟨b, 0, none⟩), .int .i64 at', .int .i64 (Rot.asked S.size at' : Nat)] w fun e w' => ((Rot.gives sz calls (Rot.asked S.size at' : Nat) < 0 ∧ e = .returned (.tuple #[.string ⟨#[]⟩, .bool false])) ∨ (∃ m : Nat, Rot.gives sz calls (Rot.asked S.size at' : Nat) = (m : Int) ∧ e = .returned (.tuple #[.string (S.extract at' (at' + m)), .bool true]))) ∧ Rq b calls w w' := by
  obtain ⟨c0, c1, c2, f2, _, _, hz, hzl, a, c, rfl, hcell⟩ := h
  obtain ⟨hA1, hA2, hA3⟩ := Rot.asked_pos hat
  by_cases hlt : calls < sz.length
  · have hget : sz[calls]? = some (sz[calls]'hlt) := List.getElem?_eq_getElem hlt
    rcases hcell with rfl | ⟨ab, ao, rfl, hcell⟩
    · simp at hlt
    have ck := hcell calls hlt
    have hzb := hz _ (List.getElem_mem hlt)
    have hgv : Rot.gives sz calls (Rot.asked S.size at' : Nat) = if sz[calls]'hlt < (Rot.asked S.size at' : Nat) then sz[calls]'hlt else (Rot.asked S.size at' : Nat) := by
      unfold Rot.gives
      rw [hget]
    generalize sz[calls]'hlt = z at ck hzb hgv
    by_cases hneg : z < 0
    · refine (sread_fails b S ab ao sz.length c calls at' (Rot.asked S.size at') z w c1 c2 ck f2 (by omega) (by omega) hneg).mono ?_
      rintro e w' ⟨rfl, hq⟩
      exact ⟨Or.inl ⟨by rw [hgv, if_pos (by omega)]; exact hneg, rfl⟩, hq⟩
    · obtain ⟨m, hm⟩ : ∃ m : Nat, (if z < (Rot.asked S.size at' : Nat) then z else (Rot.asked S.size at' : Nat)) = (m : Int) := by
        split
        · exact ⟨z.toNat, by omega⟩
        · exact ⟨_, rfl⟩
      have hgot : got S at' (Rot.asked S.size at' : Nat) z = m := by
        unfold got
        by_cases h1 : ((Rot.asked S.size at' : Nat) : Int) < z
        · rw [if_pos h1, if_neg (by omega)]
          rw [if_neg (by omega)] at hm
          exact hm
        · rw [if_neg h1]
          by_cases h2 : z < ((Rot.asked S.size at' : Nat) : Int)
          · rw [if_pos h2] at hm
            rw [if_neg (by omega)]
            exact hm
          · rw [if_neg h2] at hm
            rw [if_neg (by omega)]
            omega
      refine (sread_in b S ab ao sz.length c calls at' (Rot.asked S.size at') z m w c0 c1 c2 ck f2 (by omega) (by omega) (by omega) (by omega) (by omega) (by omega) (by omega) hgot).mono ?_
      rintro e w' ⟨rfl, hq⟩
      exact ⟨Or.inr ⟨m, by rw [hgv]; exact hm, rfl⟩, hq⟩
  · have hgv : Rot.gives sz calls (Rot.asked S.size at' : Nat) = ((Rot.asked S.size at' : Nat) : Int) := by
      unfold Rot.gives
      rw [List.getElem?_eq_none (by omega)]
    have hgot : got S at' (Rot.asked S.size at' : Nat) (Rot.asked S.size at' : Nat) = (Rot.asked S.size at' : Nat) := by
      unfold got
      rw [if_neg (by omega), if_neg (by omega)]
    refine (sread_past b S a sz.length c calls at' (Rot.asked S.size at') (Rot.asked S.size at') w c0 c1 c2 f2 (by omega) (by omega) (by omega) (by omega) (by omega) hgot).mono ?_
    rintro e w' ⟨rfl, hq⟩
    exact ⟨Or.inr ⟨_, hgv, rfl⟩, hq⟩
end Go.Proofs.YthlincikgdblfaaGreat
