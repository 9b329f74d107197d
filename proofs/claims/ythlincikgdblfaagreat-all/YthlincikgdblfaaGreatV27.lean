import Derived.Test.YthlincikgdblfaaGreatV11
import Derived.Test.YthlincikgdblfaaGreatV26
import Derived.Test.YthlincikgdblfaaGreatV13
namespace Go.Proofs.YthlincikgdblfaaGreat
open Go.RowKit
set_option linter.unusedVariables false

theorem grown_wk {a b : World} {r : Option Nat} (G : a.grownBy b none) : a.grownBy b r := ⟨G.os, G.tape, G.output, G.size, fun k hk _ => G.block k hk (by simp)⟩
/-- The two results are as they were made. -/
structure Res (w0 w : World) (n : Nat) : Prop where
  c0 : w.cell? ⟨n, 0, none⟩ = some (.pointer none)
  c1 : w.cell? ⟨n + 1, 0, none⟩ = some (.int .i64 0)
  f0 : w.frozen? ⟨n, 0, none⟩ = false
  f1 : w.frozen? ⟨n + 1, 0, none⟩ = false
  lt : n + 2 ≤ w.heap.size
theorem Res.grown {w0 w w' : World} {n b : Nat} (h : Res w0 w n) (G : w.grownBy w' (some b)) (hb : b < n) : Res w0 w' n := by
  have := h.lt
  have n0 : (some b : Option Nat) ≠ some n := fun e => by injection e; omega
  have n1 : (some b : Option Nat) ≠ some (n + 1) := fun e => by injection e; omega
  exact ⟨(grown_cell G (by omega) n0 0).trans h.c0, (grown_cell G (by omega) n1 0).trans h.c1, (grown_frozen G (by omega) n0 0).trans h.f0, (grown_frozen G (by omega) n1 0).trans h.f1, by have := G.size; omega⟩
/-- What the two results are written to. -/
theorem res_set {w w3 : World} {b : Nat} {S : ByteArray} {vs : Value} {sz : List Int} {k : Nat} (a c : Value) (hr : Res w w3 w.heap.size) (hG : w.grownBy w3 (some b)) (hs : Src w3 b S vs sz k) (hb : b < w.heap.size) (hlow : ∀ a n c, vs = .slice (some a) n c → a.block < w.heap.size) :
    let w4 := (w3.setCell ⟨w.heap.size, 0, none⟩ a).setCell ⟨w.heap.size + 1, 0, none⟩ c
    w4.cell? ⟨w.heap.size, 0, none⟩ = some a ∧ w4.cell? ⟨w.heap.size + 1, 0, none⟩ = some c ∧ Src w4 b S vs sz k ∧ w.grownBy w4 (some b) ∧ Stay (w.heap.size + 2) w3 w4 := by
  have g1 := grown_setCell w3 w.heap.size 0 a
  have g2 := grown_setCell (w3.setCell ⟨w.heap.size, 0, none⟩ a) (w.heap.size + 1) 0 c
  have e : (⟨w.heap.size, 0, none⟩ : Addr) ≠ ⟨w.heap.size + 1, 0, none⟩ := by simp
  refine ⟨?_, ?_, ?_, ?_, ?_⟩
  · exact (World.cell?_setCell_other _ _ _ _ e.symm).trans (World.cell?_setCell_same _ _ _ hr.c0)
  · exact World.cell?_setCell_same _ _ _ ((World.cell?_setCell_other _ _ _ _ e).trans hr.c1)
  · exact (hs.grown g1 (fun e => by injection e; omega) (fun a n c h e => by have := hlow a n c h; injection e; omega)).grown g2 (fun e => by injection e; omega) (fun a n c h e => by have := hlow a n c h; injection e; omega)
  · exact grown_trans (grown_trans hG g1 (Or.inr ⟨_, rfl, Nat.le_refl _⟩)) g2 (Or.inr ⟨_, rfl, by omega⟩)
  · exact (Stay.of g1 (fun j e => by injection e; omega)).trans (Stay.of g2 (fun j e => by injection e; omega))
set_option maxRecDepth 100000 in
set_option maxHeartbeats 1000000 in
/-- LOAD, of a source that is not too large. -/
theorem load_main (b : Nat) (S : ByteArray) (vs : Value) (sz : List Int) (w : World) (h : Src w b S vs sz 0) (hs : S.size ≤ 4000) (hlow : ∀ a n c, vs = .slice (some a) n c → a.block < w.heap.size) :
    Calls Tryz.prog 15 #[.pointer (some ⟨b, 0, none⟩)] w fun e w' => ∃ k, Src w' b S vs sz k ∧ w.grownBy w' (some b) ∧ ((e = .returned (.tuple #[.pointer none, .int .i64 3]) ∧ Rot.Reads S.size sz 0 0 0 false k) ∨ (e = .returned (.tuple #[.pointer none, .int .i64 4]) ∧ Rot.Reads S.size sz 0 0 0 true k ∧ ¬ Good S.data.toList) ∨ (∃ p x, e = .returned (.tuple #[.pointer (some ⟨p, 0, none⟩), .int .i64 0]) ∧ Rot.Reads S.size sz 0 0 0 true k ∧ Good S.data.toList ∧ w.heap.size ≤ p ∧ w.heap.size ≤ x ∧ ∀ w'', Stay w.heap.size w' w'' → w''.cell? ⟨p, 0, none⟩ = some (.pointer (some ⟨x, 0, none⟩)) ∧ Xv w'' x S.data.toList (nn S.data.toList) (rr S.data.toList) (lastIn S.data.toList) (Rot.numAt (dd S.data.toList 2)) (mk S.data.toList) (Rot.nums (dd S.data.toList 4) (Rot.os (mk S.data.toList) (nn S.data.toList + 1))))) := by
  have hmf : ∀ (fn : Fn) (first cap : Array Value) (w : World), (Instr.makeFunc fn first cap).run Tryz.prog w = .ok (.func fn first cap) w := fun _ _ _ _ => rfl
  have hbl : b < w.heap.size := World.block_lt_of_cell? w ⟨b, 0, none⟩ h.c0
  have G0 : w.grownBy ((w.alloc (.cells #[.pointer none] 30)).alloc (.cells #[.int .i64 0] 31)) none := grown_trans (World.grownBy_alloc w _ _) (World.grownBy_alloc _ _ _) (Or.inl rfl)
  have hS0 := h.grown G0 (by simp) (fun _ _ _ _ => by simp)
  have hsz0 : ((w.alloc (.cells #[.pointer none] 30)).alloc (.cells #[.int .i64 0] 31)).heap.size = w.heap.size + 2 := by simp
  have x0 : ((w.alloc (.cells #[.pointer none] 30)).alloc (.cells #[.int .i64 0] 31)).cell? ⟨w.heap.size, 0, none⟩ = some (.pointer none) := by go_simp
  have x1 : ((w.alloc (.cells #[.pointer none] 30)).alloc (.cells #[.int .i64 0] 31)).cell? ⟨w.heap.size + 1, 0, none⟩ = some (.int .i64 0) := by go_simp
  have f0 : ((w.alloc (.cells #[.pointer none] 30)).alloc (.cells #[.int .i64 0] 31)).frozen? ⟨w.heap.size, 0, none⟩ = false := by go_simp
  have f1 : ((w.alloc (.cells #[.pointer none] 30)).alloc (.cells #[.int .i64 0] 31)).frozen? ⟨w.heap.size + 1, 0, none⟩ = false := by go_simp
  generalize hW0 : ((w.alloc (.cells #[.pointer none] 30)).alloc (.cells #[.int .i64 0] 31)) = w0 at G0 hS0 hsz0 x0 x1 f0 f1
  have hcs := size_any b S w0 hS0.c0 (by omega)
  have hcb := lbytes_any b S vs sz w0 hS0 hs (fun a n c e => by have := hlow a n c e; omega)
  have hdl : decide ((4000 : Int) < (S.size : Int)) = false := by simp; omega
  have HG0 := hide G0
  clear h G0 hS0
  have HR0 : Hid (Res w w0 w.heap.size) := ⟨x0, x1, f0, f1, by omega⟩
  have HLow := hide hlow
  clear hlow x0 x1 f0 f1
  go_enter_defers Tryz.func15, Tryz.ntmps15
  go_wp2_with fail
  refine hcs.mono ?_
  rintro e w2 ⟨rfl, hw2⟩
  subst hw2
  clear hcs hW0
  go_wp2_with fail
  refine hcb.mono ?_
  rintro e w3 (⟨k, g, v, rfl, hrd, hsrc, hvw, hg1, hg2, hG⟩ | ⟨k, rfl, hrd, hsrc, hG⟩)
  case inr =>
    have HRD := hide hrd
    have HSRC := hide hsrc
    have HR3 := hide ((unhide HR0).grown hG hbl)
    have HG := hide (grown_trans (grown_wk (r := some b) (unhide HG0)) hG (Or.inl rfl))
    clear hcb hrd hsrc hG
    go_wp2_with fail
    have R := unhide HR3
    have hl := R.lt
    refine leaves_cons (f := 27) (args := #[.pointer (some ⟨w.heap.size, 0, none⟩), .pointer (some ⟨w.heap.size + 1, 0, none⟩)]) (by simp) (by simp [go_sem]) ?_
    refine (catch_panicking ⟨w.heap.size, 0, none⟩ ⟨w.heap.size + 1, 0, none⟩ _ _ 3 w3 R.c0 R.c1 R.f0 R.f1 (by simp) (by simp; omega) (by simp; omega)).mono ?_
    rintro e u' w4 ⟨rfl, rfl, hw4⟩
    have ga := World.grownBy_alloc w3 (.cells #[.int .i64 3] 93) (some b)
    have gn := World.grownBy_alloc w3 (.cells #[.int .i64 3] 93) none
    obtain ⟨q0, q1, q2, q3, _⟩ := res_set (.pointer none) (.int .i64 3) (R.grown ga hbl) (grown_trans (unhide HG) ga (Or.inl rfl)) ((unhide HSRC).grown gn (by simp) (fun _ _ _ _ => by simp)) hbl (unhide HLow)
    rw [← hw4] at q0 q1 q2 q3
    refine ⟨.tuple #[.pointer none, .int .i64 3], ?_, k, q2, q3, Or.inl ⟨rfl, unhide HRD⟩⟩
    simp [results, Tryz.results15, go_sem, q0, q1]
  have hcr := rows_any2 g v S.data.toList w3 hvw hg2 (by simpa using hs)
  have HRD := hide hrd
  have HSRC := hide hsrc
  have HR3 := hide ((unhide HR0).grown hG hbl)
  have HG := hide (grown_trans (grown_wk (r := some b) (unhide HG0)) hG (Or.inl rfl))
  clear hcb hrd hsrc hG hvw
  go_wp2_with fail
  refine hcr.mono ?_
  rintro e w4 (⟨x, rfl, hout⟩ | ⟨rfl, hno, hG4⟩)
  case inr =>
    have HNO := hide hno
    have HR4 := hide ((unhide HR3).grown (grown_wk hG4) hbl)
    have HSRC4 := hide ((unhide HSRC).grown hG4 (by simp) (fun _ _ _ _ => by simp))
    have HG4 := hide (grown_trans (unhide HG) (grown_wk hG4) (Or.inl rfl))
    clear hcr hno hG4
    go_wp2_with fail
    have R := unhide HR4
    have hl := R.lt
    refine leaves_cons (f := 27) (args := #[.pointer (some ⟨w.heap.size, 0, none⟩), .pointer (some ⟨w.heap.size + 1, 0, none⟩)]) (by simp) (by simp [go_sem]) ?_
    refine (catch_panicking ⟨w.heap.size, 0, none⟩ ⟨w.heap.size + 1, 0, none⟩ _ _ 4 w4 R.c0 R.c1 R.f0 R.f1 (by simp) (by simp; omega) (by simp; omega)).mono ?_
    rintro e u' w5 ⟨rfl, rfl, hw5⟩
    have ga := World.grownBy_alloc w4 (.cells #[.int .i64 4] 93) (some b)
    have gn := World.grownBy_alloc w4 (.cells #[.int .i64 4] 93) none
    obtain ⟨q0, q1, q2, q3, _⟩ := res_set (.pointer none) (.int .i64 4) (R.grown ga hbl) (grown_trans (unhide HG4) ga (Or.inl rfl)) ((unhide HSRC4).grown gn (by simp) (fun _ _ _ _ => by simp)) hbl (unhide HLow)
    rw [← hw5] at q0 q1 q2 q3
    refine ⟨.tuple #[.pointer none, .int .i64 4], ?_, k, q2, q3, Or.inr (Or.inl ⟨rfl, unhide HRD, unhide HNO⟩)⟩
    simp [results, Tryz.results15, go_sem, q0, q1]
  have ga := World.grownBy_alloc w4 (.cells #[.pointer (some ⟨x, 0, none⟩)] 65) (some b)
  have gn := World.grownBy_alloc w4 (.cells #[.pointer (some ⟨x, 0, none⟩)] 65) none
  have hp : (w4.alloc (.cells #[.pointer (some ⟨x, 0, none⟩)] 65)).cell? ⟨w4.heap.size, 0, none⟩ = some (.pointer (some ⟨x, 0, none⟩)) := by go_simp
  have R := ((unhide HR3).grown (grown_wk hout.grown) hbl).grown ga hbl
  have hsz : w.heap.size + 2 ≤ w4.heap.size := ((unhide HR3).grown (grown_wk hout.grown) hbl).lt
  have hsrc5 := ((unhide HSRC).grown hout.grown (by simp) (fun _ _ _ _ => by simp)).grown gn (by simp) (fun _ _ _ _ => by simp)
  have hG5 := grown_trans (grown_trans (unhide HG) (grown_wk (r := some b) hout.grown) (Or.inl rfl)) ga (Or.inl rfl)
  have hst : Stay w3.heap.size w4 (w4.alloc (.cells #[.pointer (some ⟨x, 0, none⟩)] 65)) := Stay.of gn (fun _ e => by simp at e)
  have hw3 : w.heap.size + 2 ≤ w3.heap.size := (unhide HR3).lt
  generalize hW5 : w4.alloc (.cells #[.pointer (some ⟨x, 0, none⟩)] 65) = w5 at ga gn hp R hsrc5 hG5 hst
  have y0 := R.c0
  have y1 := R.c1
  have z0 := R.f0
  have z1 := R.f1
  have y2 : (w5.setCell ⟨w.heap.size, 0, none⟩ (.pointer (some ⟨w4.heap.size, 0, none⟩))).cell? ⟨w.heap.size + 1, 0, none⟩ = some (.int .i64 0) := (World.cell?_setCell_other _ _ _ _ (by simp)).trans y1
  have z2 : (w5.setCell ⟨w.heap.size, 0, none⟩ (.pointer (some ⟨w4.heap.size, 0, none⟩))).frozen? ⟨w.heap.size + 1, 0, none⟩ = false := by simpa using z1
  obtain ⟨q0, q1, q2, q3, q4⟩ := res_set (.pointer (some ⟨w4.heap.size, 0, none⟩)) (.int .i64 0) R hG5 hsrc5 hbl (unhide HLow)
  have hp2 := q4.cell (b := w4.heap.size) (by omega) hp
  have hxv := fun w'' (h : Stay w.heap.size _ w'') => (And.intro (h.cell (b := w4.heap.size) (by omega) hp2) (hout.stays w'' ((hst.trans ⟨q4.size, fun i h1 h2 => q4.block i (by omega) h2⟩).trans ⟨h.size, fun i h1 h2 => h.block i (by omega) h2⟩)))
  have hfr := hout.fresh
  have HFIN : Hid (_ ∧ _ ∧ _ ∧ _ ∧ _ ∧ _) := ⟨q0, q1, q2, q3, hxv, hout.good⟩
  clear hcr hout q0 q1 q2 q3 q4 hp hp2 hxv ga gn hsrc5 hG5 hst R
  go_wp2_with fail
  obtain ⟨q0, q1, q2, q3, hxv, hgood⟩ := unhide HFIN
  refine leaves_cons (f := 27) (args := #[.pointer (some ⟨w.heap.size, 0, none⟩), .pointer (some ⟨w.heap.size + 1, 0, none⟩)]) (by simp) (by simp [go_sem]) ?_
  refine (catch_idle ⟨w.heap.size, 0, none⟩ ⟨w.heap.size + 1, 0, none⟩ _).mono ?_
  rintro e u' w6 ⟨rfl, rfl, hw6⟩
  rw [← hw6] at q0 q1 q2 q3 hxv
  refine ⟨.tuple #[.pointer (some ⟨w4.heap.size, 0, none⟩), .int .i64 0], ?_, k, q2, q3, Or.inr (Or.inr ⟨w4.heap.size, x, rfl, unhide HRD, hgood, by omega, by omega, hxv⟩)⟩
  simp [results, Tryz.results15, go_sem, q0, q1]
end Go.Proofs.YthlincikgdblfaaGreat

namespace Go.Proofs.YthlincikgdblfaaGreat
open Go.RowKit
set_option linter.unusedVariables false

/-- LOAD, of a source that is too large. -/
theorem load_large (b : Nat) (S : ByteArray) (vs : Value) (sz : List Int) (w : World) (h : Src w b S vs sz 0) (hs : 4000 < S.size) (hs2 : S.size ≤ 4611686018427387904) (hlow : ∀ a n c, vs = .slice (some a) n c → a.block < w.heap.size) :
    Calls Tryz.prog 15 #[.pointer (some ⟨b, 0, none⟩)] w fun e w' => e = .returned (.tuple #[.pointer none, .int .i64 2]) ∧ Src w' b S vs sz 0 ∧ w.grownBy w' none := by
  have hbl : b < w.heap.size := World.block_lt_of_cell? w ⟨b, 0, none⟩ h.c0
  have G0 : w.grownBy ((w.alloc (.cells #[.pointer none] 30)).alloc (.cells #[.int .i64 0] 31)) none := grown_trans (World.grownBy_alloc w _ _) (World.grownBy_alloc _ _ _) (Or.inl rfl)
  have hS0 := h.grown G0 (by simp) (fun _ _ _ _ => by simp)
  have hsz0 : ((w.alloc (.cells #[.pointer none] 30)).alloc (.cells #[.int .i64 0] 31)).heap.size = w.heap.size + 2 := by simp
  have x0 : ((w.alloc (.cells #[.pointer none] 30)).alloc (.cells #[.int .i64 0] 31)).cell? ⟨w.heap.size, 0, none⟩ = some (.pointer none) := by go_simp
  have x1 : ((w.alloc (.cells #[.pointer none] 30)).alloc (.cells #[.int .i64 0] 31)).cell? ⟨w.heap.size + 1, 0, none⟩ = some (.int .i64 0) := by go_simp
  have f0 : ((w.alloc (.cells #[.pointer none] 30)).alloc (.cells #[.int .i64 0] 31)).frozen? ⟨w.heap.size, 0, none⟩ = false := by go_simp
  have f1 : ((w.alloc (.cells #[.pointer none] 30)).alloc (.cells #[.int .i64 0] 31)).frozen? ⟨w.heap.size + 1, 0, none⟩ = false := by go_simp
  generalize hW0 : ((w.alloc (.cells #[.pointer none] 30)).alloc (.cells #[.int .i64 0] 31)) = w0 at G0 hS0 hsz0 x0 x1 f0 f1
  have hcs := size_any b S w0 hS0.c0 (by omega)
  have hdl : decide ((4000 : Int) < (S.size : Int)) = true := by simp; omega
  have y1 : (w0.setCell ⟨w.heap.size, 0, none⟩ (.pointer none)).cell? ⟨w.heap.size + 1, 0, none⟩ = some (.int .i64 0) := (World.cell?_setCell_other _ _ _ _ (by simp)).trans x1
  have z1 : (w0.setCell ⟨w.heap.size, 0, none⟩ (.pointer none)).frozen? ⟨w.heap.size + 1, 0, none⟩ = false := by simpa using f1
  obtain ⟨q0, q1, q2, q3, q4⟩ := res_set (k := 0) (.pointer none) (.int .i64 2) (⟨x0, x1, f0, f1, by omega⟩ : Res w w0 w.heap.size) (grown_wk (r := some b) G0) hS0 hbl hlow
  have gn := grown_trans (grown_trans G0 (grown_setCell w0 w.heap.size 0 (.pointer none)) (Or.inr ⟨_, rfl, Nat.le_refl _⟩)) (grown_setCell _ (w.heap.size + 1) 0 (.int .i64 2)) (Or.inr ⟨_, rfl, by omega⟩)
  have HQ := hide (And.intro q0 (And.intro q1 (And.intro q2 gn)))
  clear q0 q1 q2 q3 q4 gn G0 hS0
  clear h
  go_enter_defers Tryz.func15, Tryz.ntmps15
  go_wp2_with fail
  refine hcs.mono ?_
  rintro e w2 ⟨rfl, hw2⟩
  subst hw2
  clear hcs hW0
  go_wp2_with fail
  obtain ⟨q0, q1, q2, gn⟩ := unhide HQ
  refine ⟨.tuple #[.pointer none, .int .i64 2], ?_, rfl, q2, gn⟩
  simp [results, Tryz.results15, go_sem, q0, q1]
end Go.Proofs.YthlincikgdblfaaGreat

namespace Go.Proofs.YthlincikgdblfaaGreat
open Go.RowKit
set_option linter.unusedVariables false

theorem isNone_nil (w : World) : Calls Tryz.prog 31 #[.pointer none] w fun e w' => e = .returned (.bool true) ∧ w' = w := by
  go_enter Tryz.func31, Tryz.ntmps31
  go_wp2
  go_ret
  exact ⟨rfl, rfl⟩
theorem isNone_some (p x : Nat) (w : World) (h : w.cell? ⟨p, 0, none⟩ = some (.pointer (some ⟨x, 0, none⟩))) : Calls Tryz.prog 31 #[.pointer (some ⟨p, 0, none⟩)] w fun e w' => e = .returned (.bool false) ∧ w' = w := by
  go_enter Tryz.func31, Tryz.ntmps31
  go_wp2
  go_ret
  exact ⟨rfl, rfl⟩
theorem len_nil (w : World) : Calls Tryz.prog 17 #[.pointer none] w fun e w' => e = .returned (.int .i64 0) ∧ w' = w := by
  have hc := isNone_nil w
  go_enter Tryz.func17, Tryz.ntmps17
  go_wp2_with fail
  refine hc.mono ?_
  rintro e w2 ⟨rfl, hw2⟩
  subst hw2
  go_wp2_with fail
  go_ret
  exact ⟨rfl, rfl⟩
theorem rate_nil (w : World) : Calls Tryz.prog 18 #[.pointer none] w fun e w' => e = .returned (.int .i64 0) ∧ w' = w := by
  have hc := isNone_nil w
  go_enter Tryz.func18, Tryz.ntmps18
  go_wp2_with fail
  refine hc.mono ?_
  rintro e w2 ⟨rfl, hw2⟩
  subst hw2
  go_wp2_with fail
  go_ret
  exact ⟨rfl, rfl⟩
theorem len_some (p x : Nat) (n : Nat) (w : World) (h : w.cell? ⟨p, 0, none⟩ = some (.pointer (some ⟨x, 0, none⟩))) (hn : w.cell? ⟨x, 0, none⟩ = some (.int .i64 (n : Int))) : Calls Tryz.prog 17 #[.pointer (some ⟨p, 0, none⟩)] w fun e w' => e = .returned (.int .i64 (n : Int)) ∧ w' = w := by
  have hc := isNone_some p x w h
  go_enter Tryz.func17, Tryz.ntmps17
  go_wp2_with fail
  refine hc.mono ?_
  rintro e w2 ⟨rfl, hw2⟩
  subst hw2
  go_wp2_with fail
  go_ret
  exact ⟨rfl, rfl⟩
theorem rate_some (p x : Nat) (n : Nat) (w : World) (h : w.cell? ⟨p, 0, none⟩ = some (.pointer (some ⟨x, 0, none⟩))) (hn : w.cell? ⟨x, 1, none⟩ = some (.int .i64 (n : Int))) : Calls Tryz.prog 18 #[.pointer (some ⟨p, 0, none⟩)] w fun e w' => e = .returned (.int .i64 (n : Int)) ∧ w' = w := by
  have hc := isNone_some p x w h
  go_enter Tryz.func18, Tryz.ntmps18
  go_wp2_with fail
  refine hc.mono ?_
  rintro e w2 ⟨rfl, hw2⟩
  subst hw2
  go_wp2_with fail
  go_ret
  exact ⟨rfl, rfl⟩
end Go.Proofs.YthlincikgdblfaaGreat

namespace Go.Proofs.YthlincikgdblfaaGreat
set_option linter.unusedVariables false
open Go.RowKit

/-- Behind j bytes of the column. -/
def ColV (w : World) (s : List UInt8) (at' n : Nat) (o j : Value) (wr : World) : Prop := ∃ q : Nat, q ≤ n ∧ j = .int .i64 (q : Int) ∧ o = .string (Sb ((Rot.colRead s at' n).take q)) ∧ w.grownBy wr none
theorem ColV.mk {w : World} {s : List UInt8} {at' n : Nat} {o j : Value} {wr : World} (q : Nat) (h1 : q ≤ n) (h2 : j = .int .i64 (q : Int)) (h3 : o = .string (Sb ((Rot.colRead s at' n).take q))) (h4 : w.grownBy wr none) : ColV w s at' n o j wr := ⟨q, h1, h2, h3, h4⟩
/-- Behind l levels. -/
def LvV (s : List UInt8) (at' n j : Nat) (c k l : Value) : Prop := ∃ q cv kv : Nat, q ≤ 8 ∧ l = .int .i64 (q : Int) ∧ c = .int .i64 (cv : Int) ∧ k = .int .i64 (kv : Int) ∧ cv ≤ 255 ∧ kv < n ∧ Hid (cv = Rot.code s at' n j q ∧ kv = Rot.posn s at' n j q)
theorem LvV.mk {s : List UInt8} {at' n j : Nat} {c k l : Value} (q cv kv : Nat) (h1 : q ≤ 8) (h2 : l = .int .i64 (q : Int)) (h3 : c = .int .i64 (cv : Int)) (h4 : k = .int .i64 (kv : Int)) (h5 : cv ≤ 255) (h6 : kv < n) (h7 : cv = Rot.code s at' n j q) (h8 : kv = Rot.posn s at' n j q) : LvV s at' n j c k l := ⟨q, cv, kv, h1, h2, h3, h4, h5, h6, h7, h8⟩
/-- Behind i bits. -/
def BiV (s : List UInt8) (f n k : Nat) (z a i : Value) : Prop := ∃ q zv av : Nat, q ≤ n ∧ i = .int .i64 (q : Int) ∧ z = .int .i64 (zv : Int) ∧ a = .int .i64 (av : Int) ∧ zv ≤ q ∧ av ≤ q ∧ Hid (zv = Rot.zs s f q ∧ av = Rot.zs s f (min q k))
theorem BiV.mk {s : List UInt8} {f n k : Nat} {z a i : Value} (q zv av : Nat) (h1 : q ≤ n) (h2 : i = .int .i64 (q : Int)) (h3 : z = .int .i64 (zv : Int)) (h4 : a = .int .i64 (av : Int)) (h5 : zv ≤ q) (h6 : av ≤ q) (h7 : zv = Rot.zs s f q) (h8 : av = Rot.zs s f (min q k)) : BiV s f n k z a i := ⟨q, zv, av, h1, h2, h3, h4, h5, h6, h7, h8⟩

set_option maxRecDepth 100000 in
set_option maxHeartbeats 2000000 in
theorem rcolumn_any (s : ByteArray) (at' n W : Nat) (w : World) (hW : W = 2 + (n + 7) / 8 + 2 * ((n + 15) / 16)) (hn : n ≤ 250) (hs : s.size ≤ 4000) (hlen : at' + 8 * W ≤ s.size) :
    Calls Tryz.prog 143 #[.string s, .int .i64 at', .int .i64 n] w fun e w' => e = .returned (.string (Sb (Rot.colRead s.data.toList at' n))) ∧ w.grownBy w' none := by
  have hcl : (Rot.colRead s.data.toList at' n).length = n := by simp [Rot.colRead]
  have hWi : (2 + ((n : Int) + 7) / 8 + 2 * (((n : Int) + 15) / 16)) = (W : Int) := by omega
  have hW2 : W ≤ 100 := by omega
  have hn8 : (n + 7) / 8 + 2 ≤ W := by omega
  have HW := hide hW
  clear hW
  go_enter Tryz.func143, Tryz.ntmps143
  go_wp2_with fail
  go_loopw [8, 9] (fun o j wr => ColV w s.data.toList at' n o j wr) (fun _ j _ => n - (intOf j).toNat)
  case atStart => exact ColV.mk 0 (Nat.zero_le _) rfl rfl (World.grownBy.refl _ _)
  case round =>
    obtain ⟨j, hj, rfl, rfl, G⟩ := hrel
    have zo : (Sb ((Rot.colRead s.data.toList at' n).take j)).size ≤ 250 := Sb_le (by rw [List.length_take]; omega)
    have HG := hide G
    clear G
    by_cases hjn : j < n
    · obtain ⟨wo, hwo⟩ : ∃ wo : World, wo = wr := ⟨_, rfl⟩
      rw [← hwo] at HG ⊢
      clear hwo
      go_wp2_with fail
      go_loop [10, 11, 12] (fun c k l => LvV s.data.toList at' n j c k l) (fun _ _ l => 8 - (intOf l).toNat)
      case atStart => exact LvV.mk 0 0 j (Nat.zero_le _) rfl rfl rfl (by omega) hjn rfl rfl
      case round =>
        obtain ⟨l, c, k, hl, rfl, rfl, rfl, hc, hk, HL⟩ := hrel
        by_cases hl8 : l < 8
        · obtain ⟨M, hM⟩ : ∃ M : Nat, M = l * W := ⟨_, rfl⟩
          have hMi : (l : Int) * (W : Int) = (M : Int) := by rw [hM]; simp
          have hM2 : M + W ≤ 8 * W := by
            have := Nat.mul_le_mul_right W (show l + 1 ≤ 8 by omega)
            rw [Nat.succ_mul] at this
            omega
          obtain ⟨F, hF⟩ : ∃ F : Nat, F = at' + M + 2 := ⟨_, rfl⟩
          have hFi : (at' : Int) + (M : Int) + 2 = (F : Int) := by omega
          have hF2 : F + (n + 7) / 8 ≤ s.size := by omega
          have HM := hide hM
          have HFq := hide hF
          clear hM hF
          have hbit := fun (q : Nat) (hq : q < n) (w' : World) => rbit_any s F q w' (by omega) hs
          have HBIT := hide hbit
          clear hbit
          go_wp2_with fail
          go_loop [14, 15, 16] (fun z a i => BiV s.data.toList F n k z a i) (fun _ _ i => n - (intOf i).toNat)
          case atStart => exact BiV.mk 0 0 0 (Nat.zero_le _) rfl rfl rfl (by omega) (by omega) rfl rfl
          case round =>
            obtain ⟨q, z, a, hq, rfl, rfl, rfl, hz, ha, HZ⟩ := hrel
            by_cases hqn : q < n
            · have hb2 := Rot.bitAt_lt s.data.toList F q
              have HZ2 : Hid (∀ b, b = Rot.bitAt s.data.toList F q → z + 1 - b = Rot.zs s.data.toList F (q + 1) ∧ (q < k → a + 1 - b = Rot.zs s.data.toList F (min (q + 1) k)) ∧ (¬ q < k → a = Rot.zs s.data.toList F (min (q + 1) k))) := by
                intro b hb
                obtain ⟨e1, e2⟩ := unhide HZ
                refine ⟨?_, ?_, ?_⟩
                · simp only [Rot.zs]; omega
                · intro hqk
                  rw [show min (q + 1) k = q + 1 by omega]
                  rw [show min q k = q by omega] at e2
                  simp only [Rot.zs]; omega
                · intro hqk
                  rw [e2, show min (q + 1) k = k by omega, show min q k = k by omega]
              go_wp2_with fail
              refine (unhide HBIT q hqn _).mono ?_
              generalize hbq : Rot.bitAt s.data.toList F q = b at hb2 HZ2 ⊢
              have HBQ := hide hbq
              clear hbq
              rintro e w1 ⟨rfl, hw1⟩
              subst hw1
              by_cases hqk : q < k
              · go_wp2_with fail
                go_round
                case rel =>
                  obtain ⟨f1, f2, f3⟩ := unhide HZ2 b rfl
                  exact BiV.mk (q + 1) (z + 1 - b) (a + 1 - b) (by omega) (by go_num) (by go_num) (by go_num) (by omega) (by omega) f1 (f2 hqk)
                case measure => simp [intOf]; omega
              · go_wp2_with fail
                go_round
                case rel =>
                  obtain ⟨f1, f2, f3⟩ := unhide HZ2 b rfl
                  exact BiV.mk (q + 1) (z + 1 - b) a (by omega) (by go_num) (by go_num) rfl (by omega) (by omega) f1 (f3 hqk)
                case measure => simp [intOf]; omega
            · have eq : q = n := by omega
              subst eq
              have hb2 := Rot.bitAt_lt s.data.toList F k
              have HS : Hid (∀ b, b = Rot.bitAt s.data.toList F k → 2 * c + b = Rot.code s.data.toList at' q j (l + 1) ∧ 2 * c + b ≤ 255 ∧ (b = 0 → a = Rot.posn s.data.toList at' q j (l + 1)) ∧ (¬ b = 0 → z + k - a = Rot.posn s.data.toList at' q j (l + 1))) := by
                intro b hb
                obtain ⟨e1, e2⟩ := unhide HZ
                obtain ⟨e3, e4⟩ := unhide HL
                have hFe : at' + l * (2 + (q + 7) / 8 + 2 * ((q + 15) / 16)) + 2 = F := by rw [unhide HFq, unhide HM, unhide HW]
                have ecode : Rot.code s.data.toList at' q j (l + 1) = 2 * c + b := by
                  simp only [Rot.code]
                  rw [hFe, ← e3, ← e4, hb]
                have epos : Rot.posn s.data.toList at' q j (l + 1) = Rot.nxt s.data.toList F q k := by
                  simp only [Rot.posn]
                  rw [hFe, ← e4]
                have hcl8 := Rot.code_lt s.data.toList at' q j (l + 1)
                have hp8 : 2 ^ (l + 1) ≤ 2 ^ 8 := Nat.pow_le_pow_right (by decide) (by omega)
                rw [show min q k = k by omega] at e2
                refine ⟨ecode.symm, by rw [ecode] at hcl8; omega, ?_, ?_⟩
                · intro hb0
                  rw [epos]; unfold Rot.nxt
                  rw [if_pos (by omega)]; exact e2
                · intro hb0
                  rw [epos]; unfold Rot.nxt
                  rw [if_neg (by omega), e1, e2]
              have hak : a ≤ k ∧ z ≤ q := by
                obtain ⟨e1, e2⟩ := unhide HZ
                rw [show min q k = k by omega] at e2
                have := Rot.zs_le s.data.toList F k
                omega
              have HPL := hide (Rot.posn_lt s.data.toList at' q j hjn (l + 1))
              obtain ⟨hak, hzq⟩ := hak
              go_wp2_with fail
              refine (unhide HBIT k hk _).mono ?_
              generalize hbq : Rot.bitAt s.data.toList F k = b at hb2 HS ⊢
              clear hbq
              rintro e w1 ⟨rfl, hw1⟩
              subst hw1
              by_cases hb0 : b = 0
              · have hbb : ((b : Int) == 0) = true := by simp; omega
                go_wp2_with fail
                go_round
                case rel =>
                  obtain ⟨f1, f2, f3, f4⟩ := unhide HS b rfl
                  have hpl := unhide HPL
                  rw [← f3 hb0] at hpl
                  exact LvV.mk (l + 1) (2 * c + b) a (by omega) (by go_num) (by go_num) rfl f2 hpl f1 (f3 hb0)
                case measure => simp [intOf]; omega
              · have hbb : ((b : Int) == 0) = false := by simp; omega
                go_wp2_with fail
                go_round
                case rel =>
                  obtain ⟨f1, f2, f3, f4⟩ := unhide HS b rfl
                  have hpl := unhide HPL
                  rw [← f4 hb0] at hpl
                  exact LvV.mk (l + 1) (2 * c + b) (z + k - a) (by omega) (by go_num) (by go_num) (by go_num) f2 hpl f1 (f4 hb0)
                case measure => simp [intOf]; omega
        · have el : l = 8 := by omega
          subst el
          have HC : Hid ((Rot.colRead s.data.toList at' n).take (j + 1) = (Rot.colRead s.data.toList at' n).take j ++ [UInt8.ofNat c]) := by
            refine hide ?_
            rw [List.take_succ_eq_append_getElem (by omega)]
            congr 2
            simp only [Rot.colRead, List.getElem_map, List.getElem_range]
            rw [← (unhide HL).1]
          have hcv := conv_one (c : Int) (UInt8.ofNat c) (by have : (UInt8.ofNat c).toNat = c := by simp; omega
                                                             rw [this])
          have HA := hide (Sb_append ((Rot.colRead s.data.toList at' n).take j) [UInt8.ofNat c])
          have z3 : (Sb [UInt8.ofNat c]).size ≤ 1 := Sb_le (by simp)
          go_wp2_with fail
          go_roundw
          case rel =>
            have q1 : Value.string (Sb ((Rot.colRead s.data.toList at' n).take j) ++ Sb [UInt8.ofNat c]) = .string (Sb ((Rot.colRead s.data.toList at' n).take (j + 1))) := by rw [unhide HC, unhide HA]
            first | exact ColV.mk (j + 1) (by omega) (by go_num) q1 (grown_alloc (unhide HG) _) | (repeat apply Exists.intro; refine ⟨?_, rfl⟩; exact ColV.mk (j + 1) (by omega) (by go_num) q1 (grown_alloc (unhide HG) _))
          case measure => simp [intOf]; omega
    · have e : (Rot.colRead s.data.toList at' n).take j = Rot.colRead s.data.toList at' n := List.take_of_length_le (by omega)
      rw [e] at zo ⊢
      clear e
      go_wp2_with fail
      go_ret
      exact ⟨rfl, unhide HG⟩
end Go.Proofs.YthlincikgdblfaaGreat
