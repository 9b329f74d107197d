import Derived.Test.YthlincikgdblfaaGreatV10
import Derived.Defers
import Derived.Recover
import Derived.Laws.Pointers
import Derived.Test.YthlincikgdblfaaGreatV02
namespace Go.Proofs.YthlincikgdblfaaGreat
open Go.RowKit
set_option linter.unusedVariables false

theorem strCells_by8 (s : ByteArray) : Lib.strCells s = by8 s.data.toList := by
  unfold Lib.strCells by8
  apply List.ext_getElem
  · simp
  · intro i h1 h2
    simp
theorem extract_list (S : ByteArray) (a m : Nat) (h : a + m ≤ S.size) : S.data.toList.take a ++ (S.extract a (a + m)).data.toList = S.data.toList.take (a + m) := by
  rw [ByteArray.data_extract, Array.toList_extract, List.take_add]
  congr 1
  rw [List.extract_eq_take_drop]
  congr 1
  omega
/-- Behind some reads. -/
structure RbAt (w wr : World) (b : Nat) (S : ByteArray) (vs : Value) (sz : List Int) (at' calls no : Nat) (v : Value) : Prop where
  src : Src wr b S vs sz calls
  own : Bs wr w.heap.size v (S.data.toList.take at')
  form : ∃ g cap, v = .slice (some ⟨g, 0, none⟩) at' cap
  grown : w.grownBy wr (some b)
  reads : ∀ ok k, Rot.Reads S.size sz at' calls no ok k → Rot.Reads S.size sz 0 0 0 ok k
def RbV (w : World) (b : Nat) (S : ByteArray) (vs : Value) (sz : List Int) (fv ev : Value) (wr : World) : Prop := ∃ at' calls no : Nat, at' ≤ S.size ∧ no < 8 ∧ calls + 8 * (S.size - at') + (8 - no) ≤ 8 * S.size + 8 ∧ ev = .int .i64 (no : Int) ∧ RbAt w wr b S vs sz at' calls no fv
theorem size_any (b : Nat) (S : ByteArray) (w : World) (c0 : w.cell? ⟨b, 0, none⟩ = some (.string S)) (hs : S.size ≤ 4611686018427387904) :
    Calls Tryz.prog 26 #[.pointer (some ⟨b, 0, none⟩)] w fun e w' => e = .returned (.int .i64 (S.size : Int)) ∧ w' = w := by
  go_enter Tryz.func26, Tryz.ntmps26
  go_wp2
  go_ret
  exact ⟨rfl, rfl⟩
/-- A piece more. -/
theorem RbAt.more {w w3 w4 : World} {b gf at' m calls no : Nat} {S pp : ByteArray} {vs v' : Value} {sz : List Int} (hS : Src w3 b S vs sz calls) (hbl : b < w.heap.size) (hlow : ∀ a n c, vs = .slice (some a) n c → a.block < w.heap.size) (hlg : w.heap.size ≤ gf) (g3 : w.grownBy w3 (some b)) (hp : pp.size = m) (hex : S.data.toList.take at' ++ pp.data.toList = S.data.toList.take (at' + m)) (hle : at' + m ≤ S.size) (O : w4.ownsRow w.heap.size 5 1 v' (at' + m) (by8 (S.data.toList.take at') ++ Lib.strCells pp)) (G : w3.grownBy w4 (some gf)) (hn : ¬ v' = .slice none 0 0) (hr : ∀ ok k, Rot.Reads S.size sz (at' + m) calls no ok k → Rot.Reads S.size sz 0 0 0 ok k) : RbAt w w4 b S vs sz (at' + m) calls no v' := by
  have hcl : S.data.toList.length = S.size := by simp
  have hlen : (S.data.toList.take (at' + m)).length = at' + m := by rw [List.length_take, hcl]; omega
  refine ⟨hS.grown G (by intro e; injection e with e; omega) (fun a n c e e2 => by have := hlow a n c e; injection e2 with e2; omega), ?_, ?_, grown_trans g3 G (Or.inr ⟨_, rfl, hlg⟩), hr⟩
  · unfold Bs
    rw [hlen, ← hex, by8_append, ← strCells_by8]
    exact O
  · rcases O.2 with ⟨h1, _⟩ | ⟨g, c, _, h1, _⟩
    · exact absurd h1 hn
    · exact ⟨g, c, h1⟩
set_option maxRecDepth 100000 in
set_option maxHeartbeats 2000000 in
theorem lbytes_any (b : Nat) (S : ByteArray) (vs : Value) (sz : List Int) (w : World) (h : Src w b S vs sz 0) (hs : S.size ≤ 4000) (hlow : ∀ a n c, vs = .slice (some a) n c → a.block < w.heap.size) :
    Calls Tryz.prog 30 #[.pointer (some ⟨b, 0, none⟩)] w fun e w' => (∃ k g v, e = .returned v ∧ Rot.Reads S.size sz 0 0 0 true k ∧ Src w' b S vs sz k ∧ Vw w' g v S.data.toList ∧ w.heap.size ≤ g ∧ g < w'.heap.size ∧ w.grownBy w' (some b)) ∨ (∃ k, e = .panicked (gu 3) ∧ Rot.Reads S.size sz 0 0 0 false k ∧ Src w' b S vs sz k ∧ w.grownBy w' (some b)) := by
  obtain ⟨i0, hi, hz0, hz1, hz2⟩ := info_parts info8
  have hbl : b < w.heap.size := World.block_lt_of_cell? w ⟨b, 0, none⟩ h.c0
  have c0 := h.c0
  have HS := hide h
  have HLow := hide hlow
  clear h hlow
  have hcl : S.data.toList.length = S.size := by simp
  go_enter Tryz.func30, Tryz.ntmps30
  go_wp2_with fail
  refine (size_any b S w c0 (by omega)).mono ?_
  rintro e w1 ⟨rfl, hw1⟩
  subst hw1
  go_wp2_with (at_make; refine wpList_make_own _ rfl _ _ 45 rfl w1.heap.size 5 i0 (.int .u8 0) 1 Tryz.underlying45 hi hz0 hz1 .i64 .i64 _ S.size rfl rfl rfl ?m1 ?m2 (Nat.le_refl _) ?_)
  case m1 => rw [hz2]; omega
  case m2 => unfold maxLen; omega
  intro w2 O2 G2
  have HR0 : Hid (RbAt w1 w2 b S vs sz 0 0 0 (.slice (some ⟨w1.heap.size, 0, none⟩) 0 S.size)) := by
    refine ⟨(unhide HS).grown G2 (by simp) (fun _ _ _ _ => by simp), ?_, ⟨_, _, rfl⟩, grown_weak G2 _, fun _ _ h => h⟩
    rw [List.take_zero]
    exact O2
  clear O2 G2
  go_wp2_with fail
  go_loopw [4, 5] (fun fv ev wr => RbV w1 b S vs sz fv ev wr) (fun fv ev _ => 8 * (S.size - (match fv with | .slice _ n _ => n | _ => 0)) + (8 - (intOf ev).toNat))
  case atStart => exact ⟨0, 0, 0, Nat.zero_le _, by omega, by omega, rfl, unhide HR0⟩
  case round =>
    obtain ⟨at', calls, no, hat, hno, hm, rfl, T⟩ := hrel
    clear HR0
    obtain ⟨gf, cf, hv⟩ := T.form
    subst hv
    by_cases hlt : at' < S.size
    · obtain ⟨A, hA⟩ : ∃ A : Nat, A = Rot.asked S.size at' := ⟨_, rfl⟩
      obtain ⟨hA1, hA2, hA3⟩ := Rot.asked_pos hlt
      rw [← hA] at hA1 hA2 hA3
      have hcon := read_all b S vs sz calls at' wr T.src hs hlt (by omega)
      rw [← hA] at hcon
      have HT := hide T
      have HA := hide hA
      have hmin : min 64 ((S.size : Int) - (at' : Int)) = (A : Int) := by
        rw [hA]
        unfold Rot.asked
        omega
      clear T hA
      go_wp2_with fail
      refine hcon.mono ?_
      rintro e w3 ⟨(⟨hg, rfl⟩ | ⟨m, hg, rfl⟩), hq⟩
      · have hst : Rot.readStep S.size sz at' calls no = none := by
          unfold Rot.readStep
          rw [← unhide HA, if_pos hg]
        have HF : Hid (Rot.Reads S.size sz 0 0 0 false (calls + 1)) := (unhide HT).reads _ _ (Rot.Reads.fails _ _ _ hlt hst)
        have HSR := hide ((unhide HT).src.read hq)
        have HG3 := hide (grown_trans (unhide HT).grown hq.grown (Or.inl rfl))
        clear hcon hg hq hst hmin
        go_wp2_with fail
        refine (giveUp_any _ _).mono ?_
        rintro e w4 ⟨rfl, rfl⟩
        go_wp2_with fail
        exact ⟨rfl, Or.inr ⟨_, rfl, unhide HF, unhide HSR, unhide HG3⟩⟩
      · have hle := Rot.gives_le sz calls (A : Int)
        rw [hg] at hle
        have hmA : m ≤ A := by omega
        have hpsz : (S.extract at' (at' + m)).size = m := by rw [ByteArray.size_extract]; omega
        have HEX := hide (extract_list S at' m (by omega))
        have hsr := (unhide HT).src.read hq
        have g3 := grown_trans (unhide HT).grown hq.grown (Or.inl rfl)
        have hlg : w1.heap.size ≤ gf := ((unhide HT).own.lt (k := gf) rfl).1
        have own3 := (unhide HT).own.kept hq.grown (Or.inr (by simp [Value.ownBlock]; omega))
        have HSR := hide hsr
        have HG3 := hide g3
        have HO3 := hide own3
        generalize hpp : S.extract at' (at' + m) = pp at hpsz HEX
        have HRD := hide (unhide HT).reads
        have HG := hide hg
        clear hcon hq hsr g3 own3 hle hg HT hmin
        by_cases hm0 : m = 0
        · subst hm0
          have hd0 : decide ((0 : Int) < (pp.size : Int)) = false := by rw [hpsz]; rfl
          by_cases hn8 : no + 1 = 8
          · have hb8 : (((no : Int) + 1) == 8) = true := by simp; omega
            have hst : Rot.readStep S.size sz at' calls no = none := by
              unfold Rot.readStep
              rw [← unhide HA, unhide HG, if_neg (by omega), if_pos (by simp), if_pos hn8]
            have HF : Hid (Rot.Reads S.size sz 0 0 0 false (calls + 1)) := unhide HRD _ _ (Rot.Reads.fails _ _ _ hlt hst)
            clear hst HG HRD HA
            go_wp2_with fail
            refine (giveUp_any _ _).mono ?_
            rintro e w4 ⟨rfl, rfl⟩
            go_wp2_with fail
            exact ⟨rfl, Or.inr ⟨_, rfl, unhide HF, unhide HSR, unhide HG3⟩⟩
          · have hb8 : (((no : Int) + 1) == 8) = false := by simp; omega
            have hst : Rot.readStep S.size sz at' calls no = some (at', no + 1) := by
              unfold Rot.readStep
              rw [← unhide HA, unhide HG, if_neg (by omega), if_pos (by simp), if_neg hn8]
            have HF : Hid (∀ ok k, Rot.Reads S.size sz at' (calls + 1) (no + 1) ok k → Rot.Reads S.size sz 0 0 0 ok k) := fun ok k h => unhide HRD _ _ (Rot.Reads.goes _ _ _ _ _ _ _ hlt hst h)
            clear hst HG HRD HA
            have hown : w3.ownsRow w1.heap.size 5 1 (.slice (some ⟨gf, 0, none⟩) at' cf) at' (by8 (S.data.toList.take at')) := by
              have := unhide HO3
              unfold Bs at this
              rw [List.length_take, hcl, Nat.min_eq_left hat] at this
              exact this
            have hb3 : w1.heap.size ≤ w3.heap.size := (unhide HG3).size
            go_wp2_with (at_builtin; refine Lib.wpList_append_own_string _ rfl (.tmp 40) (.tmp 41) 45 9 rfl w1.heap.size 5 i0 Tryz.underlying45 Tryz.underlying9 hi hz0 hz1 hz2 _ at' (by8 (S.data.toList.take at')) rfl hown pp rfl ?a1 ?a2 hb3 ?_)
            case a1 => unfold maxLen; omega
            case a2 => omega
            intro v' w4 O4 G4 N4
            have HM := hide (RbAt.more (no := (no + 1)) (unhide HSR) hbl (unhide HLow) hlg (unhide HG3) hpsz (unhide HEX) (by omega) O4 G4 N4 (unhide HF))
            obtain ⟨gf2, cf2, hv2⟩ := (unhide HM).form
            clear O4 G4 N4 hown HO3 HSR HG3 HEX
            subst hv2
            go_wp2_with fail
            go_roundw
            case rel => exact ⟨at' + 0, calls + 1, (no + 1), by omega, by omega, by omega, by go_num, unhide HM⟩
            case measure => simp [intOf]; omega
        · have hd0 : decide ((0 : Int) < (pp.size : Int)) = true := by rw [hpsz]; simp; omega
          have hst : Rot.readStep S.size sz at' calls no = some (at' + m, 0) := by
            unfold Rot.readStep
            rw [← unhide HA, unhide HG, if_neg (by omega), if_neg (by omega)]
            simp
          have HF : Hid (∀ ok k, Rot.Reads S.size sz (at' + m) (calls + 1) 0 ok k → Rot.Reads S.size sz 0 0 0 ok k) := fun ok k h => unhide HRD _ _ (Rot.Reads.goes _ _ _ _ _ _ _ hlt hst h)
          clear hst HG HRD HA
          have hown : w3.ownsRow w1.heap.size 5 1 (.slice (some ⟨gf, 0, none⟩) at' cf) at' (by8 (S.data.toList.take at')) := by
            have := unhide HO3
            unfold Bs at this
            rw [List.length_take, hcl, Nat.min_eq_left hat] at this
            exact this
          have hb3 : w1.heap.size ≤ w3.heap.size := (unhide HG3).size
          go_wp2_with (at_builtin; refine Lib.wpList_append_own_string _ rfl (.tmp 40) (.tmp 41) 45 9 rfl w1.heap.size 5 i0 Tryz.underlying45 Tryz.underlying9 hi hz0 hz1 hz2 _ at' (by8 (S.data.toList.take at')) rfl hown pp rfl ?a1 ?a2 hb3 ?_)
          case a1 => unfold maxLen; omega
          case a2 => omega
          intro v' w4 O4 G4 N4
          have HM := hide (RbAt.more (no := 0) (unhide HSR) hbl (unhide HLow) hlg (unhide HG3) hpsz (unhide HEX) (by omega) O4 G4 N4 (unhide HF))
          obtain ⟨gf2, cf2, hv2⟩ := (unhide HM).form
          clear O4 G4 N4 hown HO3 HSR HG3 HEX
          subst hv2
          go_wp2_with fail
          go_roundw
          case rel => exact ⟨at' + m, calls + 1, 0, by omega, by omega, by omega, by go_num, unhide HM⟩
          case measure => simp [intOf]; omega
    · have hat' : at' = S.size := by omega
      subst hat'
      have hown := T.own
      rw [show S.data.toList.take S.size = S.data.toList from List.take_of_length_le (by omega)] at hown
      have HV : Hid (Vw wr gf (.slice (some ⟨gf, 0, none⟩) S.size cf) S.data.toList) := by
        have hf := hown.2
        rcases hf with ⟨h1, _⟩ | ⟨g, c, cur, h1, h2, h3, h4, h5, h6⟩
        · cases h1
        · cases h1
          refine ⟨0, cf, by rw [hcl], by omega, by omega, fun j hj => ?_⟩
          rw [Nat.zero_add]
          have hown2 := hown
          rw [← hcl] at hown2
          exact Bs.cell hown2 j hj
      have hlt2 := hown.lt (k := gf) rfl
      have HT := hide T
      have HRD : Hid (Rot.Reads S.size sz 0 0 0 true calls) := T.reads _ _ (Rot.Reads.done _ _ _ (Nat.le_refl _))
      clear T hown
      go_wp2_with fail
      go_ret
      exact Or.inl ⟨calls, gf, _, rfl, unhide HRD, (unhide HT).src, unhide HV, hlt2.1, hlt2.2, (unhide HT).grown⟩
end Go.Proofs.YthlincikgdblfaaGreat

namespace Go.Proofs.YthlincikgdblfaaGreat
open Go.RowKit
set_option linter.unusedVariables false

set_option maxRecDepth 100000 in
theorem why_gu (n : Int) (w : World) : Calls Tryz.prog 28 #[.iface 93 (.agg #[.int .i64 n])] w fun e w' => e = .returned (.int .i64 n) ∧ w' = w.alloc (.cells #[.int .i64 n] 93) := by
  have hta : ∀ T w, (Instr.typeAssert (.iface 93 (.agg #[.int .i64 n])) T 93 true).run Tryz.prog w = .ok (.tuple #[.agg #[.int .i64 n], .bool true]) w := fun T w => by
    simp [Instr.typeAssert, run_underlying Tryz.underlying93]
  go_enter Tryz.func28, Tryz.ntmps28
  go_wp2
  go_ret
  exact ⟨rfl, rfl⟩
theorem catch_idle (px pe : Addr) (w : World) :
    CallsD Tryz.prog 27 #[.pointer (some px), .pointer (some pe)] .returning w fun e u' w' => e = .returned (.tuple #[]) ∧ u' = .returning ∧ w' = w := by
  refine callsD_of_wpS Tryz.func27 rfl fun c₀ cs hu => ?_
  apply wpS_seq
  apply wpS_region
  simp [wpOpsS, go_sem, recoverD, hu, Tryz.ntmps27, Exit.thenS]
  refine wpS_of_wp ?_
  change Code.wp Tryz.prog _ _ { tmps := #[.pointer (some px), .pointer (some pe), .nilIface, .nilIface, undef, undef, undef, undef], defers := [] } w
  go_wp2_with fail
  cases c₀
  simp_all [bodyPostS, results, Tryz.results27]
theorem catch_panicking (px pe : Addr) (vx ve : Value) (n : Int) (w : World) (hx : w.cell? px = some vx) (he : w.cell? pe = some ve) (fx : w.frozen? px = false) (fe : w.frozen? pe = false) (hne : px ≠ pe) (lx : px.block < w.heap.size) (le : pe.block < w.heap.size) :
    CallsD Tryz.prog 27 #[.pointer (some px), .pointer (some pe)] (.panicking (gu n)) w fun e u' w' => e = .returned (.tuple #[]) ∧ u' = .panicking [{ v := .iface 93 (.agg #[.int .i64 n]), recovered := true }] ∧ w' = (((w.alloc (.cells #[.int .i64 n] 93)).setCell px (.pointer none)).setCell pe (.int .i64 n)) := by
  refine callsD_of_wpS Tryz.func27 rfl fun c₀ cs hu => ?_
  unfold gu at hu
  apply wpS_seq
  apply wpS_region
  simp [wpOpsS, go_sem, recoverD, hu, Tryz.ntmps27, Exit.thenS]
  refine wpS_of_wp ?_
  change Code.wp Tryz.prog _ _ { tmps := #[.pointer (some px), .pointer (some pe), .iface 93 (.agg #[.int .i64 n]), .iface 93 (.agg #[.int .i64 n]), undef, undef, undef, undef], defers := [] } w
  have G := World.grownBy_alloc w (.cells #[.int .i64 n] 93) none
  have hx1 : (w.alloc (.cells #[.int .i64 n] 93)).cell? px = some vx := G.cell hx (by simp)
  have he1 : (w.alloc (.cells #[.int .i64 n] 93)).cell? pe = some ve := G.cell he (by simp)
  have fx1 : (w.alloc (.cells #[.int .i64 n] 93)).frozen? px = false := (World.frozen?_of_block (a := px) (G.block _ lx (by simp))).trans fx
  have fe1 : (w.alloc (.cells #[.int .i64 n] 93)).frozen? pe = false := (World.frozen?_of_block (a := pe) (G.block _ le (by simp))).trans fe
  have hcw := why_gu n w
  generalize w.alloc (.cells #[.int .i64 n] 93) = w1 at hx1 he1 fx1 fe1 hcw ⊢
  clear G hx he fx fe
  go_wp2_with fail
  refine hcw.mono ?_
  rintro e w2 ⟨rfl, hw2⟩
  subst hw2
  clear hcw
  have he2 : (w2.setCell px (.pointer none)).cell? pe = some ve := (World.cell?_setCell_other _ _ _ _ hne).trans he1
  go_wp2_with fail
  cases c₀
  simp_all [bodyPostS, results, Tryz.results27]
end Go.Proofs.YthlincikgdblfaaGreat

namespace Go.Proofs.YthlincikgdblfaaGreat
open Go.RowKit
set_option linter.unusedVariables false

theorem load_nil (w : World) : Calls Tryz.prog 15 #[.pointer none] w fun e w' => e = .returned (.tuple #[.pointer none, .int .i64 1]) ∧ w.grownBy w' none := by
  have hmf : ∀ (fn : Fn) (first cap : Array Value) (w : World), (Instr.makeFunc fn first cap).run Tryz.prog w = .ok (.func fn first cap) w := fun _ _ _ _ => rfl
  go_enter_defers Tryz.func15, Tryz.ntmps15
  go_wp2
  refine ⟨_, ?_, rfl, ?_⟩
  · simp [results, Tryz.results15, go_sem]
  · exact grown_trans (World.grownBy_alloc w _ _) (World.grownBy_alloc _ _ _) (Or.inl rfl)
end Go.Proofs.YthlincikgdblfaaGreat

namespace Go.Proofs.YthlincikgdblfaaGreat
open Go.RowKit
set_option linter.unusedVariables false

/-- The first bytes of a piece, as cells. -/
theorem Vw.at0 {w : World} {g : Nat} {v : Value} {l : List UInt8} (h : Vw w g v l) : ∃ off cap, v = .slice (some ⟨g, off, none⟩) l.length cap ∧ l.length ≤ cap ∧ l.length ≤ 100000 ∧ ∀ j (b : UInt8), l[j]? = some b → w.cell? ⟨g, off + j, none⟩ = some (.int .u8 (b.toNat : Int)) := by
  obtain ⟨off, cap, h1, h2, h3, h4⟩ := h
  refine ⟨off, cap, h1, h2, h3, fun j b hb => ?_⟩
  obtain ⟨hj, rfl⟩ := List.getElem?_eq_some_iff.1 hb
  exact h4 j hj
theorem shl64 (a k : Nat) (ha : a < 256) (hk : k < 32) : (((a : Int) * 2 ^ k)) % 18446744073709551616 = ((a * 2 ^ k : Nat) : Int) := by
  have h1 : a * 2 ^ k < 256 * 2 ^ 32 := Nat.mul_lt_mul_of_lt_of_le' ha (Nat.pow_le_pow_right (by decide) (by omega)) (Nat.pos_of_ne_zero (by simp))
  have h2 : (((a : Int) * 2 ^ k)) = ((a * 2 ^ k : Nat) : Int) := by simp
  rw [h2]
  omega
theorem or_first (a : Nat) (ha : a < 256) : bits BinOp.or IntKind.u64 0 (a : Int) = (a : Int) := by
  have := u64_or_nat 0 a (by decide) (by omega)
  rw [Nat.zero_or] at this
  exact this
theorem or_next (x b k : Nat) (hx : x < 2 ^ k) (hb : b < 256) (hk : k ≤ 24) : bits BinOp.or IntKind.u64 (x : Int) ((b * 2 ^ k : Nat) : Int) = ((x + b * 2 ^ k : Nat) : Int) := by
  have h1 : b * 2 ^ k < 256 * 2 ^ 24 := Nat.lt_of_lt_of_le (Nat.mul_lt_mul_of_pos_right hb (Nat.two_pow_pos k)) (Nat.mul_le_mul_left 256 (Nat.pow_le_pow_right (by decide) hk))
  have h2 : x < 2 ^ 24 := Nat.lt_of_lt_of_le hx (Nat.pow_le_pow_right (by decide) hk)
  rw [u64_or_nat _ _ (by omega) (by omega), Nat.or_comm, nat_join k (b * 2 ^ k) x (Nat.mul_mod_left _ _) hx, Nat.add_comm]
set_option maxHeartbeats 1000000 in
theorem read8_any (g : Nat) (v : Value) (a : UInt8) (l : List UInt8) (w : World) (h : Vw w g v (a :: l)) :
    Calls Tryz.prog 111 #[v] w fun e w' => e = .returned (.int .u8 ((a.toNat : Nat) : Int)) ∧ w' = w := by
  obtain ⟨off, cap, rfl, h2, h3, hc⟩ := h.at0
  have c0 := hc 0 a rfl
  rw [Nat.add_zero] at c0
  have hn2 : 1 ≤ (a :: l).length := by simp
  generalize (a :: l).length = n at h2 h3 hn2
  clear h hc
  have ha : a.toNat < 256 := a.toNat_lt
  have o0 := or_first a.toNat ha
  go_enter Tryz.func111, Tryz.ntmps111
  go_wp2_with fail
  refine (width8 _).mono ?_
  rintro e w0 ⟨rfl, hw0⟩
  subst hw0
  go_wp2_with fail
  refine wp_loop_rounds 2 ?_
  rw [rounds_succ]
  go_wp2_with fail
  rw [rounds_succ]
  go_wp2_with fail
  go_ret
  exact ⟨ret_int (by omega), rfl⟩
set_option maxHeartbeats 1000000 in
theorem read16_any (g : Nat) (v : Value) (a b : UInt8) (l : List UInt8) (w : World) (h : Vw w g v (a :: b :: l)) :
    Calls Tryz.prog 110 #[v] w fun e w' => e = .returned (.int .u16 ((a.toNat + 256 * b.toNat : Nat) : Int)) ∧ w' = w := by
  obtain ⟨off, cap, rfl, h2, h3, hc⟩ := h.at0
  have c0 := hc 0 a rfl
  have c1 := hc 1 b rfl
  rw [Nat.add_zero] at c0
  have hn2 : 2 ≤ (a :: b :: l).length := by simp
  generalize (a :: b :: l).length = n at h2 h3 hn2
  clear h hc
  have ha : a.toNat < 256 := a.toNat_lt
  have hb : b.toNat < 256 := b.toNat_lt
  have o0 := or_first a.toNat ha
  obtain ⟨X1, hX1⟩ : ∃ X1 : Nat, X1 = a.toNat + b.toNat * 2 ^ 8 := ⟨_, rfl⟩
  have o1 : bits BinOp.or IntKind.u64 (a.toNat : Int) ((b.toNat : Int) * 256) = (X1 : Int) := by
    have := or_next a.toNat b.toNat 8 (by omega) hb (by omega)
    rw [← hX1] at this
    rw [← this]
    congr 1
  have HX1 := hide hX1
  have hX1b : X1 < 65536 := by omega
  clear hX1
  go_enter Tryz.func110, Tryz.ntmps110
  go_wp2_with fail
  refine (width16 _).mono ?_
  rintro e w0 ⟨rfl, hw0⟩
  subst hw0
  go_wp2_with fail
  refine wp_loop_rounds 3 ?_
  rw [rounds_succ]
  go_wp2_with fail
  rw [rounds_succ]
  go_wp2_with fail
  rw [rounds_succ]
  go_wp2_with fail
  go_ret
  have := unhide HX1
  exact ⟨ret_int (by omega), rfl⟩
set_option maxHeartbeats 1000000 in
theorem read32_any (g : Nat) (v : Value) (a b c d : UInt8) (l : List UInt8) (w : World) (h : Vw w g v (a :: b :: c :: d :: l)) :
    Calls Tryz.prog 113 #[v] w fun e w' => e = .returned (.int .u32 ((a.toNat + 256 * b.toNat + 65536 * c.toNat + 16777216 * d.toNat : Nat) : Int)) ∧ w' = w := by
  obtain ⟨off, cap, rfl, h2, h3, hc⟩ := h.at0
  have c0 := hc 0 a rfl
  have c1 := hc 1 b rfl
  have c2 := hc 2 c rfl
  have c3 := hc 3 d rfl
  rw [Nat.add_zero] at c0
  have hn2 : 4 ≤ (a :: b :: c :: d :: l).length := by simp
  generalize (a :: b :: c :: d :: l).length = n at h2 h3 hn2
  clear h hc
  have ha : a.toNat < 256 := a.toNat_lt
  have hb : b.toNat < 256 := b.toNat_lt
  have hcc : c.toNat < 256 := c.toNat_lt
  have hd : d.toNat < 256 := d.toNat_lt
  have o0 := or_first a.toNat ha
  obtain ⟨X1, hX1⟩ : ∃ X1 : Nat, X1 = a.toNat + b.toNat * 2 ^ 8 := ⟨_, rfl⟩
  obtain ⟨X2, hX2⟩ : ∃ X2 : Nat, X2 = X1 + c.toNat * 2 ^ 16 := ⟨_, rfl⟩
  obtain ⟨X3, hX3⟩ : ∃ X3 : Nat, X3 = X2 + d.toNat * 2 ^ 24 := ⟨_, rfl⟩
  have o1 : bits BinOp.or IntKind.u64 (a.toNat : Int) ((b.toNat : Int) * 256) = (X1 : Int) := by
    have := or_next a.toNat b.toNat 8 (by omega) hb (by omega)
    rw [← hX1] at this
    rw [← this]
    congr 1
  have o2 : bits BinOp.or IntKind.u64 (X1 : Int) ((c.toNat : Int) * 65536) = (X2 : Int) := by
    have := or_next X1 c.toNat 16 (by omega) hcc (by omega)
    rw [← hX2] at this
    rw [← this]
    congr 1
  have o3 : bits BinOp.or IntKind.u64 (X2 : Int) ((d.toNat : Int) * 16777216) = (X3 : Int) := by
    have := or_next X2 d.toNat 24 (by omega) hd (by omega)
    rw [← hX3] at this
    rw [← this]
    congr 1
  have hX3b : X3 < 4294967296 := by omega
  have HX : Hid (X3 = a.toNat + 256 * b.toNat + 65536 * c.toNat + 16777216 * d.toNat) := hide (by omega)
  clear hX1 hX2 hX3
  go_enter Tryz.func113, Tryz.ntmps113
  go_wp2_with fail
  refine (width32 _).mono ?_
  rintro e w0 ⟨rfl, hw0⟩
  subst hw0
  go_wp2_with fail
  refine wp_loop_rounds 5 ?_
  rw [rounds_succ]
  go_wp2_with fail
  rw [rounds_succ]
  go_wp2_with fail
  rw [rounds_succ]
  go_wp2_with fail
  rw [rounds_succ]
  go_wp2_with fail
  rw [rounds_succ]
  go_wp2_with fail
  go_ret
  have := unhide HX
  exact ⟨ret_int (by omega), rfl⟩
end Go.Proofs.YthlincikgdblfaaGreat
