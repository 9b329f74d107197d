import Derived.Test.YthlincikgdblfaaGreatV33
import Derived.Test.YthlincikgdblfaaGreatRows
import Derived.WalkKit
import Derived.ProofKit
import Derived.OpenShut
import Derived.ShutString
import Derived.ChangeOld
import Derived.ChangeSlices
import Derived.SizedLaws
import Derived.Below
import Derived.Test.YthlincikgdblfaaGreatU06
import Derived.Deep.Slices
import Derived.JoinedCond
import Derived.Deep.CondSized
namespace Go.Proofs.YthlincikgdblfaaGreat
open Go.ChangeShapes Go.WideShapes Go.ChangeAt Go.RowKit
set_option linter.unusedVariables false

theorem own0 : ownKnob Tryz.prog.godebug = none := by kernel_rfl
theorem laidOut0 : laidOutB Tryz.prog = true := by kernel_rfl
theorem cells_int : Tryz.prog.cellsOf 3 = 1 := by kernel_rfl
theorem bytes_int : Tryz.prog.bytesOf 3 = 8 := by kernel_rfl
/-- A list of numbers that came in. -/
theorem open_list {H : Type} {enc : TypeId × Value → H} {W : World} {v : Value} {d : DataW H} {ps : List MemPlace} {spare : Nat → Bool} {held : Bool} {a : Option Addr} {len cap : Nat} (hv : v = .slice a len cap) {fuel : Nat} (h : DataW.trod enc Tryz.prog W 0 spare held fuel 25 v.cells.toList = some (d, ps)) :
    ∃ zs : List Int, Ints W v zs ∧ (∀ a n c, v = .slice (some a) n c → a.block < W.heap.size ∨ zs = []) ∧ (zs = [] ∨ ∃ e s, d = .slice e s ∧ e.length = zs.length) := by
  subst hv
  rcases open_ints Tryz.underlying25 Tryz.underlying3 cells_int h with ⟨hcs, hx⟩ | ⟨ad, l, c, zs, hcs, _, hl, hm, hz, hx, hcell, hwz⟩
  · simp [Value.cells] at hcs
    obtain ⟨rfl, rfl, rfl⟩ := hcs
    exact ⟨[], ints_nil W, fun _ _ _ e => (by cases e), Or.inl rfl⟩
  simp [Value.cells] at hcs
  obtain ⟨rfl, rfl, rfl⟩ := hcs
  simp only [Prod.mk.injEq] at hx
  obtain ⟨rfl, rfl⟩ := hx
  have hlz : len ≤ zs.length := by rw [hz]; split <;> omega
  have htl : (zs.take len).length = len := by simp; omega
  by_cases h0 : len = 0
  · subst h0
    refine ⟨[], ⟨by simp, by simp, some ad, cap, by simp, Or.inl rfl⟩, fun _ _ _ _ => Or.inr rfl, Or.inl rfl⟩
  have hsp : ad.spot = none := by
    have := World.cell?_spot (hcell 0 (by omega))
    simpa [Addr.add] using this
  obtain ⟨b, off, spot⟩ := ad
  simp only [] at hsp
  subst hsp
  have hcell2 : ∀ i (hi : i < (zs.take len).length), W.cell? ⟨b, off + i, none⟩ = some (.int .i64 ((zs.take len)[i]'hi)) := by
    intro i hi
    have hi2 : i < zs.length := by omega
    have := hcell i hi2
    rw [show (⟨b, off, none⟩ : Addr).add i = ⟨b, off + i, none⟩ from add_plain b off i] at this
    rw [this]
    simp [List.getD, List.getElem?_eq_getElem hi2]
  refine ⟨zs.take len, ⟨?_, by unfold maxLen at hm; omega, some ⟨b, off, none⟩, cap, by rw [htl], Or.inr ⟨b, off, rfl, hcell2⟩⟩, ?_, Or.inr ⟨_, _, rfl, by simp [lits]⟩⟩
  · intro z hzm
    exact bounds_i64 (hwz z (List.mem_of_mem_take hzm))
  · intro a n c e
    cases e
    left
    exact World.block_lt_of_cell? W _ (hcell2 0 (by omega))
end Go.Proofs.YthlincikgdblfaaGreat

namespace Go.Proofs.YthlincikgdblfaaGreat
set_option linter.unusedVariables false
open Go.ChangeShapes Go.WideShapes Go.ChangeAt Go.RowKit Go.Deep

theorem weightsAll_mem7 {H : Type} {P : Program} {e : TypeId} : ∀ {l : List (DataW H)} {d : DataW H}, d ∈ l → ∀ n ∈ d.weights P e, n ∈ DataW.weightsAll P e l
  | [], _, hd, _, _ => by cases hd
  | d' :: r, d, hd, n, hn => by
    simp only [DataW.weightsAll, List.mem_append]
    rcases List.mem_cons.1 hd with rfl | h
    · exact Or.inl hn
    · exact Or.inr (weightsAll_mem7 h n hn)
theorem open_list2 {H : Type} {enc : TypeId × Value → H} {w : World} {spare : Nat → Bool} {held : Bool} {fuel : Nat} {v5 : Value} {y : DataW H × List MemPlace} (h : DataW.trod enc Tryz.prog w 0 spare held fuel 25 [v5] = some y) :
    ∃ zs : List Int, Ints w v5 zs ∧ (∀ n c, v5 = .slice none n c → c = 0) ∧ (∀ a n c, v5 = .slice (some a) n c → a.block < w.heap.size ∨ zs = []) ∧ (zs = [] ∨ ∃ e s, y.1 = .slice e s ∧ e.length = zs.length) := by
  obtain ⟨d, ps⟩ := y
  rcases open_ints Tryz.underlying25 Tryz.underlying3 cells_int h with ⟨hcs, _⟩ | ⟨ad, l, c, zs, hcs, _⟩
  · simp at hcs
    subst hcs
    obtain ⟨zs, h1, h2, h3⟩ := open_list (v := .slice none 0 0) rfl h
    exact ⟨zs, h1, fun n c e => (by cases e; rfl), h2, h3⟩
  · simp at hcs
    subst hcs
    obtain ⟨zs, h1, h2, h3⟩ := open_list (v := .slice (some ad) l c) rfl h
    exact ⟨zs, h1, fun n c e => (by cases e), h2, h3⟩
theorem bytes_op : Tryz.prog.bytesOf 58 = 72 := by kernel_rfl
set_option maxRecDepth 100000 in
set_option maxHeartbeats 1000000 in
/-- A script that came in, and may load. -/
theorem open_script2 {H : Type} {enc : TypeId × Value → H} {w : World} {spare : Nat → Bool} {held : Bool} {fuel : Nat} {a0 : Option Addr} {len cap : Nat} {x : DataW H × List MemPlace}
    (h : DataW.trod enc Tryz.prog w 0 spare held fuel 22 [.slice a0 len cap] = some x) (hwt : (x.1.weights Tryz.prog 22).all (· ≤ reachBytes) = true) : IsScript2 w a0 len := by
  rcases open_slice Tryz.underlying22 h with ⟨h0, _⟩ | ⟨ad, l, c, m, n, D, Pl, hcs, hb, hl, hm, hmm, hxe, hx⟩
  · simp at h0
    exact Or.inl h0.2.1
  · simp at hcs
    obtain ⟨rfl, rfl, rfl⟩ := hcs
    by_cases h0 : len = 0
    · exact Or.inl h0
    have hlm : len ≤ m := by rw [hmm]; split <;> omega
    have c6 : Tryz.prog.cellsOf 58 = 6 := by kernel_rfl
    subst hxe
    have hw0 : ∀ z ∈ DataW.weights Tryz.prog 22 (.slice ((List.range len).map D) ((List.range (m - len)).map fun j => D (len + j))), z ≤ 140737488351232 := by
      intro z hz
      have := of_decide_eq_true (List.all_eq_true.1 hwt z hz)
      simpa [reachBytes] using this
    have hlen72 : len * 72 ≤ 140737488351232 := by
      have := hw0 ((((List.range len).map D).length + ((List.range (m - len)).map fun j => D (len + j)).length) * Tryz.prog.bytesOf 58) (by simp only [DataW.weights, Tryz.underlying22, List.mem_cons, true_or])
      rw [bytes_op] at this
      simp at this
      omega
    have hwD : ∀ i, i < len → ∀ z ∈ (D i).weights Tryz.prog 58, z ≤ 140737488351232 := by
      intro i hi z hz
      refine hw0 z ?_
      simp only [DataW.weights, Tryz.underlying22, List.mem_cons, List.mem_append]
      exact Or.inr (Or.inl (weightsAll_mem7 (List.mem_map.2 ⟨i, List.mem_range.2 hi, rfl⟩) z hz))
    have each : ∀ i, i < len → ∃ (kd x : Int) (s : ByteArray) (a y : Int) (lv : Value) (zs : List Int), (-9223372036854775808 ≤ kd ∧ kd ≤ 9223372036854775807) ∧ (-9223372036854775808 ≤ x ∧ x ≤ 9223372036854775807) ∧ (-9223372036854775808 ≤ a ∧ a ≤ 9223372036854775807) ∧ s.size ≤ 140737488351232 ∧ LOk w lv zs ∧
        w.cell? (ad.add (i * 6)) = some (.int .i64 kd) ∧ w.cell? (ad.add (i * 6 + 1)) = some (.int .i64 x) ∧ w.cell? (ad.add (i * 6 + 2)) = some (.string s) ∧ w.cell? (ad.add (i * 6 + 3)) = some (.int .i64 a) ∧ w.cell? (ad.add (i * 6 + 4)) = some (.int .i64 y) ∧ w.cell? (ad.add (i * 6 + 5)) = some lv := by
      intro i hi
      obtain ⟨cs', h1, h2⟩ := hx i (by omega)
      have hwi := hwD i hi
      rw [c6] at h1
      obtain ⟨_, hlen, hcell⟩ := World.cells?_some h1
      obtain ⟨xs, k, hk, hxy, _, hxl, hf⟩ := DataW.trod_struct Tryz.underlying58 h2
      have hxl6 : xs.length = 6 := hxl
      have hlen6 : cs'.length = 6 := hlen
      clear hxl hlen
      match xs, hxl6, cs', hlen6 with
      | [y0, y1, y2, y3, y4, y5], _, [v0, v1, v2, v3, v4, v5], _ =>
        have g0 := hf 0 _ rfl
        have g1 := hf 1 _ rfl
        have g2 := hf 2 _ rfl
        have g3 := hf 3 _ rfl
        have g4 := hf 4 _ rfl
        have g5 := hf 5 _ rfl
        have ci : Tryz.prog.cellsOf 3 = 1 := by kernel_rfl
        have cst : Tryz.prog.cellsOf 9 = 1 := by kernel_rfl
        have cli : Tryz.prog.cellsOf 25 = 1 := by kernel_rfl
        simp [ci, cst, cli] at g0 g1 g2 g3 g4 g5
        obtain ⟨n0, e0, _, f0⟩ := DataW.trod_int Tryz.underlying3 g0
        obtain ⟨n1, e1, _, f1⟩ := DataW.trod_int Tryz.underlying3 g1
        obtain ⟨s2, e2, e2b, f2⟩ := DataW.trod_string Tryz.underlying9 g2
        obtain ⟨n3, e3, _, f3⟩ := DataW.trod_int Tryz.underlying3 g3
        obtain ⟨n4, e4, _, f4⟩ := DataW.trod_int Tryz.underlying3 g4
        obtain ⟨zs, i1, i2, i3, i4⟩ := open_list2 g5
        simp at e0 e1 e2 e3 e4
        subst e0 e1 e2 e3 e4
        have hDi : D i = .agg [y0.1, y1.1, y2.1, y3.1, y4.1, y5.1] := congrArg Prod.fst hxy
        have hW2 : ∀ z, z ∈ y2.1.weights Tryz.prog 9 ∨ z ∈ y5.1.weights Tryz.prog 25 → z ≤ 140737488351232 := by
          intro z hz
          refine hwi z ?_
          rw [hDi]
          simp only [DataW.weights, Tryz.underlying58]
          rcases hz with hz | hz
          · exact DataW.weights_mem_each (j := 2) rfl rfl z hz
          · exact DataW.weights_mem_each (j := 5) rfl rfl z hz
        have hs2 : s2.size ≤ 140737488351232 := by
          have := hW2 s2.data.toList.length (Or.inl (by rw [e2b]; simp [DataW.weights]))
          simpa using this
        have hz5 : zs.length * 8 ≤ 140737488351232 := by
          rcases i4 with rfl | ⟨e, s, he, hel⟩
          · simp
          · have := hW2 ((e.length + s.length) * Tryz.prog.bytesOf 3) (Or.inr (by rw [he]; simp only [DataW.weights, Tryz.underlying25, List.mem_cons, true_or]))
            rw [bytes_int, hel] at this
            omega
        have d0 := hcell 0 (by omega)
        have d1 := hcell 1 (by omega)
        have d2 := hcell 2 (by omega)
        have d3 := hcell 3 (by omega)
        have d4 := hcell 4 (by omega)
        have d5 := hcell 5 (by omega)
        rw [add_add] at d0 d1 d2 d3 d4 d5
        exact ⟨n0, n1, s2, n3, n4, v5, zs, bounds_i64 f0, bounds_i64 f1, bounds_i64 f3, hs2, ⟨i1, i2, i3, hz5⟩, by simpa using d0, by simpa using d1, by simpa using d2, by simpa using d3, by simpa using d4, by simpa using d5⟩
    obtain ⟨b, off, spot⟩ := ad
    have hspot : spot = none := by
      obtain ⟨kd, x, s, a, y, lv, zs, _, _, _, _, _, q, _⟩ := each 0 (by omega)
      simpa [Addr.add] using World.cell?_spot q
    subst hspot
    refine Or.inr ⟨b, off, rfl, hlen72, ?_⟩
    intro i hi
    obtain ⟨kd, x, s, a, y, lv, zs, k1, k2, k3, hs, hL, q0, q1, q2, q3, q4, q5⟩ := each i hi
    have ea : ∀ j, (⟨b, off, none⟩ : Addr).add j = ⟨b, off + j, none⟩ := fun j => add_off b off j
    rw [ea] at q0 q1 q2 q3 q4 q5
    exact ⟨kd, x, s, a, y, lv, zs, k1, k2, k3, hs, hL, q0, by simpa [Nat.add_assoc] using q1, by simpa [Nat.add_assoc] using q2, by simpa [Nat.add_assoc] using q3, by simpa [Nat.add_assoc] using q4, by simpa [Nat.add_assoc] using q5⟩
end Go.Proofs.YthlincikgdblfaaGreat

namespace Go.Proofs.YthlincikgdblfaaGreat.all
open Go.ChangeShapes Go.WideShapes Go.ChangeAt Go.RowKit
open Go.ChangeMaps (open_string shut_string)
set_option linter.unusedVariables false

/-- What the bound gives: how many steps there are. -/
theorem bulk_pos {H : Type} (d : DataW H) : 1 ≤ Rows.uptoBulk d := by
  cases d with
  | lit l => cases l <;> simp [Rows.uptoBulk]
  | _ => simp [Rows.uptoBulk]
theorem bulk_len {H : Type} : ∀ (l : List (DataW H)), l.length ≤ Rows.uptoBulkAll l
  | [] => by simp [Rows.uptoBulkAll]
  | d :: r => by
    have h1 := bulk_pos d
    have h2 := bulk_len r
    simp only [Rows.uptoBulkAll, List.length_cons]
    omega
theorem script_short {H : Type} {enc : TypeId × Value → H} {w : World} {spare : Nat → Bool} {held : Bool} {fuel : Nat} {a0 : Option Addr} {len cap : Nat} {d : DataW H} {p : List MemPlace}
    (h : DataW.trod enc Tryz.prog w 0 spare held fuel 22 [.slice a0 len cap] = some (d, p)) (hk : Rows.uptoSmall H [d] = true) : len ≤ 1048576 := by
  have hb : Rows.uptoBulkAll [d] ≤ 1048576 := of_decide_eq_true hk
  rcases Go.Deep.open_slice Tryz.underlying22 h with ⟨h0, _⟩ | ⟨ad, l, c, m, n, D, Pl, hcs, _, _, _, _, hxe, _⟩
  · simp at h0
    omega
  · simp at hcs
    obtain ⟨_, rfl, _⟩ := hcs
    have e := congrArg Prod.fst hxe
    simp only at e
    rw [e] at hb
    simp only [Rows.uptoBulkAll, Rows.uptoBulk] at hb
    have := bulk_len ((List.range len).map D)
    rw [List.length_map, List.length_range] at this
    omega
set_option maxRecDepth 100000 in
theorem lifted (os : Os) (started : os.Started) (H : Type) (enc : TypeId × Value → H) (F : Stop.Interp) :
    ReturnsInHanded {} Tryz.checked os 10 .any ((Rows.OpenSpec.upto Rows.allSpec).pre6 enc Tryz.prog Tryz.f10 Rows.allUptoRow.domain false) (((Rows.OpenSpec.upto Rows.allSpec).at F).post enc Tryz.prog Tryz.f10 false true false false) := by
  refine returnsInHanded_of_cond_sized (C := Tryz.checked) (s := Rows.OpenSpec.upto Rows.allSpec) (k := Rows.uptoSmall) rfl own0 started (by kernel_rfl) Tryz.func10
    (OpenSpec.witness (enc := enc) (C := Tryz.checked) (s := Rows.OpenSpec.upto Rows.allSpec) (k := Rows.uptoSmall) rfl false ⟨#[], #[.slice none 0 0], []⟩ 8 (by kernel_rfl) (by kernel_rfl) (by kernel_rfl)
      (x := ([.nil], [], [])) (by kernel_rfl) rfl (by kernel_rfl)) ?_
  intro W base args ds gs before hval0 hW hcnd hk hsz0 _
  have hval : ∀ (j : Nat) t v, Tryz.f10.params[j]? = some t → args[j]? = some v → Value.okWide Tryz.prog W .any base t v := hval0
  have hsz : (DataW.weightsEach Tryz.prog (Tryz.f10.params.toList ++ (Rows.OpenSpec.upto Rows.allSpec).bare.plain.varTypes Tryz.prog) (ds ++ gs)).all (· ≤ reachBytes) = true := hsz0
  have hW' := hW
  obtain ⟨p, q, hA0, hV, rfl, hfz, hnd⟩ := hW
  have hA : DataW.TrodAll enc Tryz.prog W 0 (fun _ => true) true Tryz.f10.params.toList args.toList ds p := hA0
  rw [Tryz.params10] at hA hval hsz
  obtain ⟨v0, vs0, d0, ds0, p0, q0, hargs, rfl, rfl, h0, r0⟩ := trodAll_cons hA
  obtain ⟨rfl, rfl, rfl⟩ := trodAll_nil r0
  obtain rfl : args = #[v0] := by cases args; simp_all
  obtain ⟨rfl, rfl⟩ := trodVars_none hV
  obtain ⟨a0, len0, cap0, rfl⟩ := okWide_slice Tryz.underlying22 (hval 0 22 v0 rfl rfl)
  have k0 := h0
  have lt0 : ∀ x ∈ p0, x.block < W.heap.size := by obtain ⟨m, hm⟩ := k0; exact DataW.trod_lt m _ _ _ hm
  have hw0 : (d0.weights Tryz.prog 22).all (· ≤ reachBytes) = true := by
    rw [List.all_eq_true]
    intro z hz
    exact List.all_eq_true.1 hsz z (DataW.weights_mem_each (j := 0) rfl rfl z hz)
  have w0 : IsScript2 W a0 len0 := by
    obtain ⟨fuel, hf⟩ := h0
    exact open_script2 (x := (d0, p0)) (by simpa [Value.cells] using hf) hw0
  have hlen : len0 ≤ 1048576 := by
    simp only [List.append_nil] at hk
    obtain ⟨fuel, hf⟩ := h0
    exact script_short (by simpa [Value.cells] using hf) hk
  clear hA0 hval0
  refine (all_walk a0 len0 cap0 W w0 hlen).mono fun e W' ⟨he, bel⟩ => ?_
  subst he
  exact ⟨_, rfl, _, _, _, [], _, [], hW', trodAll_mk1 (shut_bool Tryz.underlying4 _), (trodAll_cons_mk (Below.trod laidOut0 (by kernel_rfl) (of_decide_eq_true (by kernel_rfl)) k0 bel lt0) trodAll_mk0), rfl, bel.frame _, fun h => by cases h⟩

theorem over : Rows.AllUptoSaid :=
  OpenClaim.holds_of_cond 10 Tryz.f10 rfl rfl rfl rfl rfl rfl rfl ⟨rfl, rfl, rfl, rfl, rfl⟩ rfl rfl rfl rfl rfl (by kernel_rfl) Tryz.func10 (by kernel_rfl)
    (of_decide_eq_true (by kernel_rfl)) (by unfold Func.isWrapper; first | (rw [if_pos (by decide +kernel)]; kernel_rfl) | (rw [if_neg (by decide +kernel)]; exact ⟨rfl, rfl⟩))
    (fun os started H enc _ F => lifted os started H enc F)
end Go.Proofs.YthlincikgdblfaaGreat.all
namespace Go.Proofs.YthlincikgdblfaaGreat
theorem allupto_holds : Rows.AllUptoSaid := all.over
#print axioms allupto_holds
end Go.Proofs.YthlincikgdblfaaGreat
