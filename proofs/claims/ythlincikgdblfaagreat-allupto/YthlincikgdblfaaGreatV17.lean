import Derived.Test.YthlincikgdblfaaGreatV16
import Derived.RegionDies
import Derived.Test.YthlincikgdblfaaGreatV05
import Derived.Deep.MidRow
namespace Go.Proofs.YthlincikgdblfaaGreat
open Go.RowKit
set_option linter.unusedVariables false

/-- Is a row marked and placed as a row at that place must be? -/
def markOk (M : List UInt8) (Q : List Nat) (r row at' : Nat) : Prop := (Rot.bitAt M 0 row == 1) = Rot.isMarked r at' ∧ (Rot.bitAt M 0 row = 1 → (Q[Rot.os M row]?).getD 0 = at')
theorem os_bit_lt {M : List UInt8} {k n : Nat} (hk : k < n) (hb : Rot.bitAt M 0 k = 1) : Rot.os M k < Rot.os M n := by
  have h1 := Rot.os_succ M k
  have key : ∀ d, Rot.os M (k + 1) ≤ Rot.os M (k + 1 + d) := by
    intro d
    induction d with
    | zero => exact Nat.le_refl _
    | succ d ih => have := Rot.os_succ M (k + 1 + d); rw [← Nat.add_assoc]; omega
  have h2 := key (n - (k + 1))
  rw [show k + 1 + (n - (k + 1)) = n by omega] at h2
  omega
set_option maxRecDepth 100000 in
set_option maxHeartbeats 1000000 in
theorem mark_any (x : Nat) (s : List UInt8) (n r last : Nat) (F : Nat → Nat) (M : List UInt8) (Q : List Nat) (row pl : Nat) (w : World) (h : Xv w x s n r last F M Q) (hQ : Q.length = Rot.os M (n + 1)) (hQb : ∀ q ∈ Q, q < 65536) (hn : n ≤ 250) (hr : isRate (r : Int) = true) (hrow : row ≤ n) (hpl : pl ≤ n) :
    Calls Tryz.prog 87 #[.pointer (some ⟨x, 0, none⟩), .int .i64 row, .int .i64 pl] w fun e w' => ((e = .returned (.tuple #[]) ∧ markOk M Q r row pl) ∨ (e = .panicked (gu 4) ∧ ¬ markOk M Q r row pl)) ∧ ∃ j, w' = w.drewN j := by
  have hr8 : 1 ≤ r ∧ r ≤ 8 := by
    unfold isRate at hr
    simp at hr
    omega
  obtain ⟨hr1, hr2⟩ := hr8
  obtain ⟨p, a, D, hB, hD⟩ := h.marks
  have hPl := hD.1
  have hcb := fun j => bit_any x 299 p a M D (n + 1) _ row (w.drewN j) (hB.drewN j) (by omega) (by omega)
  have hco := fun j => ones_any x 299 p a M D (n + 1) row (w.drewN j) (hB.drewN j) (by omega) (fun _ => hD) (by omega)
  have hcm := fun j => isMarked_any pl r (w.drewN j) (by omega) hr1 hr2
  obtain ⟨v, hv, hU⟩ := h.places
  have crate := h.rate
  have HM : Hid (markOk M Q r row pl ↔ ((Rot.bitAt M 0 row == 1) = Rot.isMarked r pl ∧ (Rot.bitAt M 0 row = 1 → (Q[Rot.os M row]?).getD 0 = pl))) := Iff.rfl
  have hos : Rot.bitAt M 0 row = 1 → Rot.os M row < Q.length := fun hb => by rw [hQ]; exact os_bit_lt (by omega) hb
  have hbl := Rot.bitAt_lt M 0 row
  have hob := Rot.os_le M row
  have hQl : Q.length ≤ 300 := by rw [hQ]; have := Rot.os_le M (n + 1); omega
  clear h hB hD hQ hPl
  by_cases hbit : Rot.bitAt M 0 row = 1
  · have hlt := hos hbit
    rw [hbit] at hcb HM
    obtain ⟨g, cap, rfl, hcap, hcell⟩ := hU.slice (by omega)
    have cq := hcell _ hlt
    have hqb := hQb _ (List.getElem_mem hlt)
    rw [List.getElem?_eq_getElem hlt] at HM
    simp only [Option.getD_some] at HM
    generalize Q[Rot.os M row]'hlt = q at cq hqb HM
    generalize Rot.os M row = o at hco hlt cq hob
    clear hcell hU hos hQb hbit hbl
    have hbe : ((1 : Nat) == 1) = true := rfl
    rw [hbe] at hcb HM
    cases hmk : Rot.isMarked r pl with
    | false =>
      rw [hmk] at hcm HM
      have HN : Hid (¬ markOk M Q r row pl) := fun h => by have := ((unhide HM).1 h).1; cases this
      clear HM hmk
      go_enter Tryz.func87, Tryz.ntmps87
      go_wp2_with fail
      refine (hcb 0).mono ?_
      rintro e w1 ⟨rfl, rfl⟩
      go_wp2_with fail
      refine (hcm 0).mono ?_
      rintro e w1 ⟨rfl, rfl⟩
      go_wp2_with fail
      refine (must_no _).mono ?_
      rintro e w1 ⟨rfl, rfl⟩
      go_wp2_with fail
      exact ⟨rfl, Or.inr ⟨rfl, unhide HN⟩, 0, rfl⟩
    | true =>
      rw [hmk] at hcm HM
      by_cases hq : q = pl
      · have HY : Hid (markOk M Q r row pl) := (unhide HM).2 ⟨rfl, fun _ => hq⟩
        have hqe : ((q : Int) == (pl : Int)) = true := by simp [hq]
        clear HM hmk hq
        go_enter Tryz.func87, Tryz.ntmps87
        go_wp2_with fail
        refine (hcb 0).mono ?_
        rintro e w1 ⟨rfl, rfl⟩
        go_wp2_with fail
        refine (hcm 0).mono ?_
        rintro e w1 ⟨rfl, rfl⟩
        go_wp2_with fail
        refine (must_yes _).mono ?_
        rintro e w1 ⟨rfl, rfl⟩
        go_wp2_with fail
        go_quiet (first | (go_at_call 83; exact Calls.quiet_of (hco _)) | (go_at_call 76; exact Calls.quiet_of_same (must_yes _)))
        go_wp2_with fail
        go_end0
        exact ⟨Or.inl ⟨rfl, unhide HY⟩, _, rfl⟩
      · have HN : Hid (¬ markOk M Q r row pl) := fun h => hq (((unhide HM).1 h).2 trivial)
        have hqe : ((q : Int) == (pl : Int)) = false := by simp; omega
        have hqw : IntKind.i64.wrap (q : Int) = (q : Int) := by rw [IntKind.wrap_i64]; omega
        clear HM hmk hq
        go_enter Tryz.func87, Tryz.ntmps87
        go_wp2_with fail
        refine (hcb 0).mono ?_
        rintro e w1 ⟨rfl, rfl⟩
        go_wp2_with fail
        refine (hcm 0).mono ?_
        rintro e w1 ⟨rfl, rfl⟩
        go_wp2_with fail
        refine (must_yes _).mono ?_
        rintro e w1 ⟨rfl, rfl⟩
        go_wp2_with fail
        go_region_dies
        all_goals
          refine (hco 1).mono ?_
          rintro e w1 ⟨rfl, j, rfl⟩
          simp only []
          rename_i hK
          repeat (refine hK _ _ ?_; clear hK; (first | refine wpAny_ready (rs := [0]) (by decide +kernel) (by simp) ?_ | refine wpAny_ready (rs := [1]) (by decide +kernel) (by simp) ?_ | refine wpAny_ready (rs := [2]) (by decide +kernel) (by simp) ?_ | refine wpAny_ready (rs := [3]) (by decide +kernel) (by simp) ?_ | refine wpAny_ready (rs := [4]) (by decide +kernel) (by simp) ?_ | refine wpAny_ready (rs := [5]) (by decide +kernel) (by simp) ?_ | refine wpAny_ready (rs := [6]) (by decide +kernel) (by simp) ?_ | refine wpAny_ready (rs := [7]) (by decide +kernel) (by simp) ?_ | refine wpAny_ready (rs := [8]) (by decide +kernel) (by simp) ?_ | refine wpAny_ready (rs := [9]) (by decide +kernel) (by simp) ?_ | refine wpAny_ready (rs := [10]) (by decide +kernel) (by simp) ?_ | refine wpAny_ready (rs := [11]) (by decide +kernel) (by simp) ?_ | refine wpAny_ready (rs := [12]) (by decide +kernel) (by simp) ?_ | refine wpAny_ready (rs := [13]) (by decide +kernel) (by simp) ?_ | refine wpAny_ready (rs := [14]) (by decide +kernel) (by simp) ?_); refine AllReady.cons rfl (fun K hK => ?_) AllReady.nil; go_simp)
          refine (must_no _).mono ?_
          rintro e w2 ⟨rfl, rfl⟩
          simp only []
          exact ⟨rfl, Or.inr ⟨rfl, unhide HN⟩, _, rfl⟩
  · have hb0 : Rot.bitAt M 0 row = 0 := by omega
    rw [hb0] at hcb HM
    have hbe : ((0 : Nat) == 1) = false := rfl
    rw [hbe] at hcb HM
    clear hU hos hQb hbit hbl hb0 hv
    cases hmk : Rot.isMarked r pl with
    | true =>
      rw [hmk] at hcm HM
      have HN : Hid (¬ markOk M Q r row pl) := fun h => by have := ((unhide HM).1 h).1; cases this
      clear HM hmk
      go_enter Tryz.func87, Tryz.ntmps87
      go_wp2_with fail
      refine (hcb 0).mono ?_
      rintro e w1 ⟨rfl, rfl⟩
      go_wp2_with fail
      refine (hcm 0).mono ?_
      rintro e w1 ⟨rfl, rfl⟩
      go_wp2_with fail
      refine (must_no _).mono ?_
      rintro e w1 ⟨rfl, rfl⟩
      go_wp2_with fail
      exact ⟨rfl, Or.inr ⟨rfl, unhide HN⟩, 0, rfl⟩
    | false =>
      rw [hmk] at hcm HM
      have HY : Hid (markOk M Q r row pl) := (unhide HM).2 ⟨rfl, fun h => by cases h⟩
      clear HM hmk
      go_enter Tryz.func87, Tryz.ntmps87
      go_wp2_with fail
      refine (hcb 0).mono ?_
      rintro e w1 ⟨rfl, rfl⟩
      go_wp2_with fail
      refine (hcm 0).mono ?_
      rintro e w1 ⟨rfl, rfl⟩
      go_wp2_with fail
      refine (must_yes _).mono ?_
      rintro e w1 ⟨rfl, rfl⟩
      go_wp2_with fail
      go_end0
      exact ⟨Or.inl ⟨rfl, unhide HY⟩, 0, rfl⟩
end Go.Proofs.YthlincikgdblfaaGreat

namespace Go.Proofs.YthlincikgdblfaaGreat
open Go.RowKit
set_option linter.unusedVariables false

def firstCells (F : Nat → Nat) : List Value := (List.range 256).map fun c => Value.int .u16 (F c : Nat)
theorem firstCells_len (F : Nat → Nat) : (firstCells F).length = 256 := by simp [firstCells]
theorem firstCells_get (F : Nat → Nat) (c : Nat) (hc : c < 256) : (firstCells F).toArray[c]? = some (.int .u16 (F c : Nat)) := by simp [firstCells, hc]
theorem Xv.range {w : World} {x : Nat} {s : List UInt8} {n r last : Nat} {F : Nat → Nat} {M : List UInt8} {Q : List Nat} (h : Xv w x s n r last F M Q) : w.rangeAt x 43 (firstCells F) := by
  intro j v hv
  obtain ⟨hj, he⟩ := List.getElem?_eq_some_iff.1 hv
  have hj2 : j < 256 := by rwa [firstCells_len] at hj
  rw [(h.first j hj2).1, ← he]
  simp [firstCells]
/-- Does FIRST say what the column says? -/
def firstOk (F : Nat → Nat) (s : List UInt8) (n : Nat) : Prop := ∀ c, c < 256 → F c = Rot.belowOf (Rot.colRead s 44 n) c
def FirstV (F : Nat → Nat) (s : List UInt8) (n : Nat) (w : World) (be ix : Value) (wr : World) : Prop := ∃ k j B : Nat, k ≤ 256 ∧ ix = .int .i64 (k : Int) ∧ be = .int .i64 (B : Int) ∧ B ≤ n + 1 ∧ wr = w.drewN j ∧ Hid (B = Rot.belowOf (Rot.colRead s 44 n) k) ∧ Hid (∀ c, c < k → F c = Rot.belowOf (Rot.colRead s 44 n) c)
theorem FirstV.mk {F : Nat → Nat} {s : List UInt8} {n : Nat} {w wr : World} {be ix : Value} (k j B : Nat) (h1 : k ≤ 256) (h2 : ix = .int .i64 (k : Int)) (h3 : be = .int .i64 (B : Int)) (h6 : B ≤ n + 1) (h4 : wr = w.drewN j) (h7 : B = Rot.belowOf (Rot.colRead s 44 n) k) (h5 : ∀ c, c < k → F c = Rot.belowOf (Rot.colRead s 44 n) c) : FirstV F s n w be ix wr := ⟨k, j, B, h1, h2, h3, h6, h4, h7, h5⟩
set_option maxRecDepth 100000 in
set_option maxHeartbeats 1000000 in
theorem lookAtFirst_any (x : Nat) (s : List UInt8) (n r last : Nat) (F : Nat → Nat) (M : List UInt8) (Q : List Nat) (w : World) (h : Xv w x s n r last F M Q) (hn : n ≤ 250) :
    Calls Tryz.prog 55 #[.pointer (some ⟨x, 0, none⟩)] w fun e w' => ((e = .returned (.tuple #[]) ∧ firstOk F s n) ∨ (e = .panicked (gu 4) ∧ ¬ firstOk F s n)) ∧ ∃ j, w' = w.drewN j := by
  have HX := hide h
  have hrange := h.range
  have hsz : (Tryz.prog.info? 74).map (·.size) = some (firstCells F).length := by rw [firstCells_len]; kernel_rfl
  have HF := hide (fun c hc => (h.first c hc).2)
  clear h
  go_enter Tryz.func55, Tryz.ntmps55
  go_wp2_with (refine wpList_load_mid rfl 74 (.tmp 7) rfl x 43 rfl (firstCells F) _ hrange Tryz.underlying74 rfl hsz ?_)
  generalize hcs : (firstCells F).toArray = cs
  have HCS := hide hcs
  clear hcs hrange hsz
  go_loopw [2, 9] (fun be ix wr => FirstV F s n w be ix wr) (fun _ ix _ => 256 - (intOf ix).toNat)
  case atStart => exact FirstV.mk 0 0 1 (by omega) rfl rfl (by omega) rfl (Rot.below_zero _).symm (fun c hc => absurd hc (Nat.not_lt_zero _))
  case round =>
    obtain ⟨k, j, B, hk, rfl, rfl, hB, hw, HB, HA⟩ := hrel
    have HXr : Hid (Xv wr x s n r last F M Q) := by rw [hw]; exact (unhide HX).drewN j
    have clen := (unhide HXr).len
    have HW := hide hw
    clear hw HX
    by_cases hlt : k < 256
    · have hidx := idx_counts cs k (.int .u16 (F k : Nat)) hlt (by rw [← unhide HCS]; exact firstCells_get F k hlt)
      have hFk := unhide HF k hlt
      generalize hf : F k = fk at hidx hFk
      have HFK := hide hf
      clear hf
      by_cases heq : fk = B
      · have hbe : ((fk : Int) == (B : Int)) = true := by simp [heq]
        have HA2 : Hid (∀ c, c < k + 1 → F c = Rot.belowOf (Rot.colRead s 44 n) c) := by
          intro c hc
          by_cases e : c = k
          · subst e; rw [unhide HFK, heq, unhide HB]
          · exact unhide HA c (by omega)
        have hcon := fun jj => ahead_any x 3 s 44 n n (UInt8.ofNat k) (wr.drewN jj) ((unhide HXr).tree.drewN jj) (by omega) (Nat.le_refl _)
        have hkn : (UInt8.ofNat k).toNat = k := by simp; omega
        have hsucc := Rot.below_succ (Rot.colRead s 44 n) (UInt8.ofNat k)
        rw [hkn] at hsucc hcon
        have hcl := Rot.colRead_len s 44 n
        have htk : (Rot.colRead s 44 n).take n = Rot.colRead s 44 n := List.take_of_length_le (by omega)
        rw [htk] at hcon
        have hble := Rot.below_le (Rot.colRead s 44 n) (k + 1)
        rw [hcl] at hble
        rw [← unhide HB] at hsucc
        generalize (Rot.colRead s 44 n).countP (fun x => x == UInt8.ofNat k) = cn at hcon hsucc
        have HS : Hid (B + cn = Rot.belowOf (Rot.colRead s 44 n) (k + 1)) := hsucc.symm
        have hle : B + cn ≤ n + 1 := by rw [unhide HS]; omega
        have hwr : IntKind.u8.wrap (k : Int) = (k : Int) := by rw [IntKind.wrap_u8']; omega
        have hfw : IntKind.i64.wrap (fk : Int) = (fk : Int) := by rw [IntKind.wrap_i64]; omega
        clear hsucc hble htk hcl heq HFK HA HB hkn
        go_wp2_with fail
        refine (must_yes _).mono ?_
        rintro e w1 ⟨rfl, rfl⟩
        go_wp2_with fail
        go_quiet ((go_at_call 86; exact Calls.quiet_of (hcon _)))
        go_wp2_with fail
        go_roundw
        case rel => exact FirstV.mk (k + 1) (j + nq) (B + cn) (by omega) (by go_num) (by go_num) hle (by rw [unhide HW]; exact World.drewN_drewN _ _ _) (unhide HS) (unhide HA2)
        case measure => simp [intOf]; omega
      · have hbe : ((fk : Int) == (B : Int)) = false := by simp; omega
        have HN : Hid (¬ firstOk F s n) := fun h => heq (by rw [← unhide HFK, unhide HB]; exact h k hlt)
        have hfw : IntKind.i64.wrap (fk : Int) = (fk : Int) := by rw [IntKind.wrap_i64]; omega
        clear heq HFK HA HB
        go_wp2_with fail
        refine (must_no _).mono ?_
        rintro e w1 ⟨rfl, rfl⟩
        go_wp2_with fail
        exact ⟨rfl, Or.inr ⟨rfl, unhide HN⟩, _, unhide HW⟩
    · have hk' : k = 256 := by omega
      subst hk'
      have HY : Hid (firstOk F s n) := unhide HA
      clear HA HB
      go_wp2_with fail
      go_end0
      exact ⟨Or.inl ⟨rfl, unhide HY⟩, _, unhide HW⟩
end Go.Proofs.YthlincikgdblfaaGreat

namespace Go.Proofs.YthlincikgdblfaaGreat
open Go.RowKit
set_option linter.unusedVariables false

/-- Do the steps back go through all rows, each marked and placed as it must be? -/
def walkOk (col : List UInt8) (n r last : Nat) (M : List UInt8) (Q : List Nat) : Prop := last ≤ n ∧ (∀ k, k < n → Rot.walk col last k ≠ last ∧ markOk M Q r (Rot.walk col last k) (n - k)) ∧ markOk M Q r (Rot.walk col last n) 0
def WalkV (col : List UInt8) (n r last : Nat) (M : List UInt8) (Q : List Nat) (w : World) (rv av : Value) (wr : World) : Prop := ∃ k A j R : Nat, k + A = n ∧ av = .int .i64 (A : Int) ∧ rv = .int .i64 (R : Int) ∧ R ≤ n ∧ Hid (wr = w.drewN j) ∧ Hid (R = Rot.walk col last k) ∧ Hid (∀ i, i < k → Rot.walk col last i ≠ last ∧ markOk M Q r (Rot.walk col last i) (n - i))
theorem WalkV.mk {col : List UInt8} {n r last : Nat} {M : List UInt8} {Q : List Nat} {w wr : World} {rv av : Value} (k A j R : Nat) (h1 : k + A = n) (h2 : av = .int .i64 (A : Int)) (h3 : rv = .int .i64 (R : Int)) (h4 : R ≤ n) (h5 : wr = w.drewN j) (h6 : R = Rot.walk col last k) (h7 : ∀ i, i < k → Rot.walk col last i ≠ last ∧ markOk M Q r (Rot.walk col last i) (n - i)) : WalkV col n r last M Q w rv av wr := ⟨k, A, j, R, h1, h2, h3, h4, h5, h6, h7⟩
set_option maxRecDepth 100000 in
set_option maxHeartbeats 1000000 in
theorem lookAtWalk_any (x : Nat) (s : List UInt8) (n r last : Nat) (F : Nat → Nat) (M : List UInt8) (Q : List Nat) (w : World) (h : Xv w x s n r last F M Q) (hF : firstOk F s n) (hQ : Q.length = Rot.os M (n + 1)) (hQb : ∀ q ∈ Q, q < 65536) (hn : n ≤ 250) (hr : isRate (r : Int) = true) (hlb : last < 65536) :
    Calls Tryz.prog 56 #[.pointer (some ⟨x, 0, none⟩)] w fun e w' => ((e = .returned (.tuple #[]) ∧ walkOk (Rot.colRead s 44 n) n r last M Q) ∨ (e = .panicked (gu 4) ∧ ¬ walkOk (Rot.colRead s 44 n) n r last M Q)) ∧ ∃ j, w' = w.drewN j := by
  have clen := h.len
  have clast := h.last
  have HX := hide h
  have HF := hide hF
  have HQ := hide hQ
  have HQb := hide hQb
  clear h hF hQ hQb
  by_cases hl : last ≤ n
  case neg =>
    have hd : decide (last ≤ n) = false := by simp; omega
    have HN : Hid (¬ walkOk (Rot.colRead s 44 n) n r last M Q) := fun h => hl h.1
    go_enter Tryz.func56, Tryz.ntmps56
    go_wp2_with fail
    go_region_dies
    all_goals
      refine (must_no _).mono ?_
      rintro e w1 ⟨rfl, rfl⟩
      simp only []
      exact ⟨rfl, Or.inr ⟨rfl, unhide HN⟩, _, rfl⟩
  have hd : decide (last ≤ n) = true := by simp; omega
  have hcl := Rot.colRead_len s 44 n
  generalize hcol : Rot.colRead s 44 n = col at hcl
  have HCol := hide hcol
  clear hcol
  have HCL := hide hcl
  clear hcl
  go_enter Tryz.func56, Tryz.ntmps56
  go_wp2_with fail
  go_quiet ((go_at_call 76; exact Calls.quiet_of_same (must_yes _)))
  go_wp2_with fail
  go_loopw [2, 3] (fun rv av wr => WalkV col n r last M Q w rv av wr) (fun _ av _ => (intOf av).toNat)
  case atStart => exact WalkV.mk 0 n nq 0 (by omega) rfl rfl (by omega) rfl rfl (fun i hi => absurd hi (Nat.not_lt_zero _))
  case round =>
    obtain ⟨k, A, j, R, hk, rfl, rfl, hR, HW, HR, HA⟩ := hrel
    have HXr : Hid (Xv wr x s n r last F M Q) := by rw [unhide HW]; exact (unhide HX).drewN j
    have clast := (unhide HXr).last
    by_cases hlt : k < n
    · obtain ⟨A', hA'⟩ : ∃ A' : Nat, A = A' + 1 := ⟨A - 1, by omega⟩
      subst hA'
      by_cases hrl : R = last
      · have hb : ((R : Int) != (last : Int)) = false := by simp [hrl]
        have HN : Hid (¬ walkOk col n r last M Q) := fun h => (h.2.1 k hlt).1 (by rw [← unhide HR, hrl])
        clear HA HR HX hrl
        go_wp2_with fail
        refine (must_no _).mono ?_
        rintro e w1 ⟨rfl, rfl⟩
        go_wp2_with fail
        exact ⟨rfl, Or.inr ⟨rfl, unhide HN⟩, _, unhide HW⟩
      · have hb : ((R : Int) != (last : Int)) = true := by simp; omega
        have hcm := mark_any x s n r last F M Q R (A' + 1) wr (unhide HXr) (unhide HQ) (unhide HQb) hn hr hR (by omega)
        have hnk : n - k = A' + 1 := by omega
        go_wp2_with fail
        refine (must_yes _).mono ?_
        rintro e w1 ⟨rfl, hw1⟩
        subst hw1
        go_wp2_with fail
        refine hcm.mono ?_
        rintro e w1 ⟨(⟨rfl, hok⟩ | ⟨rfl, hno⟩), j1, hw1⟩
        case inr =>
          have HN : Hid (¬ walkOk col n r last M Q) := fun h => hno (by have := (h.2.1 k hlt).2; rw [← unhide HR, hnk] at this; exact this)
          have HW1 := hide hw1
          clear hcm hno hw1
          go_wp2_with fail
          exact ⟨rfl, Or.inr ⟨rfl, unhide HN⟩, _, by rw [unhide HW1, unhide HW]; exact World.drewN_drewN _ _ _⟩
        have hcb := rowsBack_any x s n r last F M Q R w1 (by rw [hw1]; exact (unhide HXr).drewN j1) (unhide HF) hn hl hR hrl
        rw [unhide HCol] at hcb
        have hplt : Rot.placeOf last R < col.length := by rw [unhide HCL]; exact Rot.placeOf_lt hl hR hrl
        have hbk : Rot.back col last R ≤ n := by
          have := Rot.lower_bound hplt
          rw [unhide HCL] at this
          unfold Rot.back
          omega
        have HR2 : Hid (Rot.back col last R = Rot.walk col last (k + 1)) := by rw [unhide HR]; exact rfl
        have HA2 : Hid (∀ i, i < k + 1 → Rot.walk col last i ≠ last ∧ markOk M Q r (Rot.walk col last i) (n - i)) := by
          intro i hi
          by_cases e : i = k
          · subst e
            rw [← unhide HR, hnk]
            exact ⟨hrl, hok⟩
          · exact unhide HA i (by omega)
        have HW1 := hide hw1
        generalize Rot.back col last R = R2 at hcb hbk HR2
        generalize (Rot.at' col (Rot.placeOf last R)).toNat = cc at hcb
        clear hcm hok hw1 HA HR HX hplt hrl
        go_wp2_with fail
        refine hcb.mono ?_
        rintro e w2 ⟨rfl, j2, hw2⟩
        have HW2 := hide hw2
        clear hcb hw2
        go_wp2_with fail
        go_roundw
        case rel => exact WalkV.mk (k + 1) A' (j + j1 + j2) R2 (by omega) (by go_num) rfl hbk (by rw [unhide HW2, unhide HW1, unhide HW]; simp only [World.drewN_drewN, Nat.add_assoc]) (unhide HR2) (unhide HA2)
        case measure => simp [intOf]
    · have hk' : k = n := by omega
      have hA0 : A = 0 := by omega
      subst hk' hA0
      have hcm := mark_any x s k r last F M Q R 0 wr (unhide HXr) (unhide HQ) (unhide HQb) hn hr hR (by omega)
      go_wp2_with fail
      refine hcm.mono ?_
      rintro e w1 ⟨(⟨rfl, hok⟩ | ⟨rfl, hno⟩), j1, hw1⟩
      · have HY : Hid (walkOk col k r last M Q) := ⟨hl, unhide HA, by rw [← unhide HR]; exact hok⟩
        have HW1 := hide hw1
        clear hcm hok hw1 HA HR HX
        go_wp2_with fail
        go_end0
        exact ⟨Or.inl ⟨rfl, unhide HY⟩, _, by rw [unhide HW1, unhide HW]; exact World.drewN_drewN _ _ _⟩
      · have HN : Hid (¬ walkOk col k r last M Q) := fun h => hno (by have := h.2.2; rw [← unhide HR] at this; exact this)
        have HW1 := hide hw1
        clear hcm hno hw1 HA HR HX
        go_wp2_with fail
        exact ⟨rfl, Or.inr ⟨rfl, unhide HN⟩, _, by rw [unhide HW1, unhide HW]; exact World.drewN_drewN _ _ _⟩
end Go.Proofs.YthlincikgdblfaaGreat

namespace Go.Proofs.YthlincikgdblfaaGreat
open Go.RowKit
set_option linter.unusedVariables false

/-- A piece of old memory, in newer memory. -/
theorem Vw.kept0 {w w' : World} {g : Nat} {v : Value} {l : List UInt8} (h : Vw w g v l) (hg : w.grownBy w' none) (hlt : g < w.heap.size) : Vw w' g v l := h.grown hg (by simp) hlt
/-- A new variable of four cells. -/
theorem cells4 (w : World) (a b c d : Value) (ty : TypeId) : (w.alloc (.cells #[a, b, c, d] ty)).heap.size = w.heap.size + 1 ∧ (w.alloc (.cells #[a, b, c, d] ty)).cell? ⟨w.heap.size, 0, none⟩ = some a ∧ (w.alloc (.cells #[a, b, c, d] ty)).cell? ⟨w.heap.size, 1, none⟩ = some b ∧ (w.alloc (.cells #[a, b, c, d] ty)).cell? ⟨w.heap.size, 2, none⟩ = some c ∧ (w.alloc (.cells #[a, b, c, d] ty)).cell? ⟨w.heap.size, 3, none⟩ = some d ∧ ∀ j, (w.alloc (.cells #[a, b, c, d] ty)).frozen? ⟨w.heap.size, j, none⟩ = false := by
  refine ⟨by simp, ?_, ?_, ?_, ?_, ?_⟩
  · go_simp
  · go_simp
  · go_simp
  · go_simp
  · intro j; go_simp
/-- A reader that was made. -/
theorem made_reader (w : World) (g off n cap : Nat) (l : List UInt8) (h : Vw w g (.slice (some ⟨g, off, none⟩) n cap) l) (hg : g < w.heap.size) : (w.alloc (.cells #[.slice (some ⟨g, off, none⟩) n cap] 134)).heap.size = w.heap.size + 1 ∧ Rdr (w.alloc (.cells #[.slice (some ⟨g, off, none⟩) n cap] 134)) w.heap.size g (.slice (some ⟨g, off, none⟩) n cap) l :=
  ⟨by simp, by go_simp, by go_simp, h.kept0 (World.grownBy_alloc w _ none) hg, by omega⟩
theorem grown4 (w : World) (b : Nat) (x0 x1 x2 x3 : Value) : w.grownBy ((((w.setCell ⟨b, 0, none⟩ x0).setCell ⟨b, 1, none⟩ x1).setCell ⟨b, 2, none⟩ x2).setCell ⟨b, 3, none⟩ x3) (some b) :=
  grown_trans (grown_trans (grown_trans (grown_setCell _ _ _ _) (grown_setCell _ _ _ _) (Or.inl rfl)) (grown_setCell _ _ _ _) (Or.inl rfl)) (grown_setCell _ _ _ _) (Or.inl rfl)
/-- What takeNumbers leaves. -/
structure SecN (w w' : World) (g : Nat) (R : Nat) (N : Value) (l : List UInt8) (c : Nat) : Prop where
  rdr : ∃ u, Rdr w' R g u (l.drop (2 * c))
  num : Us w' w.heap.size N (Rot.nums l c)
  fresh : w.heap.size ≤ R
  grown : w.grownBy w' none
set_option maxHeartbeats 1000000 in
theorem takeNumbers_any (g : Nat) (v : Value) (l : List UInt8) (c : Nat) (w : World) (h : Vw w g v l) (hg : g < w.heap.size) (hc : c ≤ 300) :
    Calls Tryz.prog 80 #[v, .int .i64 c] w fun e w' => (2 * c ≤ l.length ∧ ∃ R N, e = .returned (.agg #[v, .pointer (some ⟨R, 0, none⟩), N, .slice none 0 0]) ∧ SecN w w' g R N l c) ∨ (l.length < 2 * c ∧ e = .panicked (gu 4) ∧ w.grownBy w' none) := by
  have HV := hide h
  obtain ⟨off, cap, rfl, hlen, hcap, _⟩ := h
  have G0 := World.grownBy_alloc w (.cells #[.slice none 0 0, .pointer none, .slice none 0 0, .slice none 0 0] 101) none
  have hz := cells4 w (.slice none 0 0) (.pointer none) (.slice none 0 0) (.slice none 0 0) 101
  generalize hW0 : w.alloc (.cells #[.slice none 0 0, .pointer none, .slice none 0 0, .slice none 0 0] 101) = w0 at G0 hz
  obtain ⟨hs0, z0, z1, z2, z3, zf⟩ := hz
  have hcr := newReader_any (some ⟨g, off, none⟩) l.length cap w0
  have G1 := World.grownBy_alloc w0 (.cells #[.slice (some ⟨g, off, none⟩) l.length cap] 134) none
  obtain ⟨hs1, hR1⟩ := made_reader w0 g off l.length cap l ((unhide HV).kept0 G0 hg) (by omega)
  generalize hW1 : w0.alloc (.cells #[.slice (some ⟨g, off, none⟩) l.length cap] 134) = w1 at hcr G1 hR1 hs1
  rw [hs0] at hR1 hcr hs1
  have hcn := nums_any (w.heap.size + 1) g _ l c w1 hR1 (by omega) (by omega)
  have HW0 := hide hW0
  have HG0 := hide G0
  have HG1 := hide G1
  clear hW1 hR1 G1 G0
  go_enter Tryz.func80, Tryz.ntmps80
  go_wp2_with fail
  clear hW0
  refine hcr.mono ?_
  rintro e w2 ⟨rfl, hw2⟩
  subst hw2
  clear hcr
  go_wp2_with fail
  refine hcn.mono ?_
  rintro e w3 (⟨h2, rfl, hout⟩ | ⟨h2, rfl, g3⟩)
  case inr =>
    have HG3 := hide g3
    clear hcn g3
    go_wp2_with fail
    exact ⟨rfl, Or.inr ⟨h2, rfl, grown_trans (grown_trans (unhide HG0) (unhide HG1) (Or.inl rfl)) (unhide HG3) (Or.inr ⟨_, rfl, by omega⟩)⟩⟩
  have g3 := hout.grown
  have hs3 := g3.size
  have cR : ∀ j y, w0.cell? ⟨w.heap.size, j, none⟩ = some y → w3.cell? ⟨w.heap.size, j, none⟩ = some y := fun j y hy => by
    rw [grown_cell g3 (by omega) (by intro e; injection e with e; omega) j, grown_cell (unhide HG1) (by omega) (by simp) j]
    exact hy
  have fR : ∀ j, w3.frozen? ⟨w.heap.size, j, none⟩ = false := fun j => by
    rw [grown_frozen g3 (by omega) (by intro e; injection e with e; omega) j, grown_frozen (unhide HG1) (by omega) (by simp) j]
    exact zf j
  have r0 := cR 0 _ z0
  have r1 := cR 1 _ z1
  have r2 := cR 2 _ z2
  have r3 := cR 3 _ z3
  have f0 := fR 0
  have f1 := fR 1
  have f2 := fR 2
  have f3 := fR 3
  have HO := hide hout
  have HG3 := hide g3
  clear hcn hout g3 cR fR z0 z1 z2 z3 zf
  go_wp2_with fail
  refine bodyPost_ret (v := .agg #[.slice (some ⟨g, off, none⟩) l.length cap, .pointer (some ⟨w.heap.size + 1, 0, none⟩), .slice (some ⟨w.heap.size + 1 + 1, 0, none⟩) c c, .slice none 0 0]) (by simp [results, Tryz.results80, go_sem, r0, r1, r2, r3]) rfl (Or.inl ⟨h2, _, _, rfl, ?_⟩)
  have GE := grown4 w3 w.heap.size (.slice (some ⟨g, off, none⟩) l.length cap) (.pointer (some ⟨w.heap.size + 1, 0, none⟩)) (.slice (some ⟨w.heap.size + 1 + 1, 0, none⟩) c c) (.slice none 0 0)
  have hU := (unhide HO).row
  rw [hs1] at hU
  obtain ⟨u, hu⟩ := (unhide HO).rdr
  refine ⟨⟨u, hu.grown GE (by intro e; injection e with e; omega) (by intro e; injection e with e; omega) (by omega)⟩, ?_, by omega, ?_⟩
  · have := World.ownsRow.kept hU GE (Or.inr (by intro e; simp [Value.ownBlock] at e; omega))
    exact ⟨this.1, this.2.imp id fun ⟨g, cap, cur, a, b, c⟩ => ⟨g, cap, cur, a, by omega, c⟩⟩
  · exact grown_trans (grown_trans (grown_trans (unhide HG0) (unhide HG1) (Or.inl rfl)) (unhide HG3) (Or.inr ⟨_, rfl, by omega⟩)) GE (Or.inr ⟨_, rfl, Nat.le_refl _⟩)
/-- What takeMarks leaves. -/
structure SecM (w w' : World) (g R b : Nat) (p a : Value) (l : List UInt8) (n : Nat) : Prop where
  rdr : ∃ u, Rdr w' R g u (l.drop ((n + 7) / 8 + 2 * ((n + 15) / 16)))
  bits : Bv w' b 0 p a (l.take ((n + 7) / 8)) (Rot.nums (l.drop ((n + 7) / 8)) ((n + 15) / 16)) n (onesIn l n)
  freshP : Bs w' w.heap.size p (l.take ((n + 7) / 8))
  freshA : Us w' w.heap.size a (Rot.nums (l.drop ((n + 7) / 8)) ((n + 15) / 16))
  freshB : w.heap.size ≤ b
  fresh : w.heap.size ≤ R
  grown : w.grownBy w' none
set_option maxHeartbeats 1000000 in
theorem takeMarks_any (g : Nat) (v : Value) (l : List UInt8) (n : Nat) (w : World) (h : Vw w g v l) (hg : g < w.heap.size) (hn : n ≤ 300) :
    Calls Tryz.prog 82 #[v, .int .i64 n] w fun e w' => ((n + 7) / 8 + 2 * ((n + 15) / 16) ≤ l.length ∧ ∃ R b p a, e = .returned (.agg #[v, .pointer (some ⟨R, 0, none⟩), .slice none 0 0, .slice (some ⟨b, 0, none⟩) 1 1]) ∧ SecM w w' g R b p a l n) ∨ (l.length < (n + 7) / 8 + 2 * ((n + 15) / 16) ∧ e = .panicked (gu 4) ∧ w.grownBy w' none) := by
  have HV := hide h
  obtain ⟨off, cap, rfl, hlen, hcap, _⟩ := h
  have G0 := World.grownBy_alloc w (.cells #[.slice none 0 0, .pointer none, .slice none 0 0, .slice none 0 0] 101) none
  have hz := cells4 w (.slice none 0 0) (.pointer none) (.slice none 0 0) (.slice none 0 0) 101
  generalize hW0 : w.alloc (.cells #[.slice none 0 0, .pointer none, .slice none 0 0, .slice none 0 0] 101) = w0 at G0 hz
  obtain ⟨hs0, z0, z1, z2, z3, zf⟩ := hz
  have hcr := newReader_any (some ⟨g, off, none⟩) l.length cap w0
  have G1 := World.grownBy_alloc w0 (.cells #[.slice (some ⟨g, off, none⟩) l.length cap] 134) none
  obtain ⟨hs1, hR1⟩ := made_reader w0 g off l.length cap l ((unhide HV).kept0 G0 hg) (by omega)
  generalize hW1 : w0.alloc (.cells #[.slice (some ⟨g, off, none⟩) l.length cap] 134) = w1 at hcr G1 hR1 hs1
  rw [hs0] at hR1 hcr hs1
  have hcn := take_any (w.heap.size + 1) g _ l n w1 hR1 (by omega) hn
  have HW0 := hide hW0
  have HG0 := hide G0
  have HG1 := hide G1
  clear hW1 hR1 G1 G0
  go_enter Tryz.func82, Tryz.ntmps82
  go_wp2_with fail
  clear hW0
  refine hcr.mono ?_
  rintro e w2 ⟨rfl, hw2⟩
  subst hw2
  clear hcr
  go_wp2_with fail
  refine hcn.mono ?_
  rintro e w3 (⟨h2, p, a, rfl, hout⟩ | ⟨h2, rfl, g3⟩)
  case inr =>
    have HG3 := hide g3
    clear hcn g3
    go_wp2_with fail
    exact ⟨rfl, Or.inr ⟨h2, rfl, grown_trans (grown_trans (unhide HG0) (unhide HG1) (Or.inl rfl)) (unhide HG3) (Or.inr ⟨_, rfl, by omega⟩)⟩⟩
  have g3 := hout.grown
  have hs3 := g3.size
  have cR : ∀ j y, w0.cell? ⟨w.heap.size, j, none⟩ = some y → w3.cell? ⟨w.heap.size, j, none⟩ = some y := fun j y hy => by
    rw [grown_cell g3 (by omega) (by intro e; injection e with e; omega) j, grown_cell (unhide HG1) (by omega) (by simp) j]
    exact hy
  have fR : ∀ j, w3.frozen? ⟨w.heap.size, j, none⟩ = false := fun j => by
    rw [grown_frozen g3 (by omega) (by intro e; injection e with e; omega) j, grown_frozen (unhide HG1) (by omega) (by simp) j]
    exact zf j
  have r0 := cR 0 _ z0
  have r1 := cR 1 _ z1
  have r2 := cR 2 _ z2
  have r3 := cR 3 _ z3
  have f0 := fR 0
  have f1 := fR 1
  have f2 := fR 2
  have f3 := fR 3
  have HO := hide hout
  have HG3 := hide g3
  have hlt3 : w.heap.size < w3.heap.size := by omega
  have hne3 : ¬ w.heap.size = w3.heap.size := by omega
  clear hcn hout g3 cR fR z0 z1 z2 z3 zf
  go_wp2_with fail
  refine bodyPost_ret (v := .agg #[.slice (some ⟨g, off, none⟩) l.length cap, .pointer (some ⟨w.heap.size + 1, 0, none⟩), .slice none 0 0, .slice (some ⟨w3.heap.size, 0, none⟩) 1 1]) (by simp [results, Tryz.results82, go_sem, r0, r1, r2, r3, hlt3]) rfl (Or.inl ⟨h2, _, _, p, a, rfl, ?_⟩)
  have GE := grown4 w3 w.heap.size (.slice (some ⟨g, off, none⟩) l.length cap) (.pointer (some ⟨w.heap.size + 1, 0, none⟩)) (.slice none 0 0) (.slice (some ⟨w3.heap.size, 0, none⟩) 1 1)
  have hse : ((((w3.setCell ⟨w.heap.size, 0, none⟩ (.slice (some ⟨g, off, none⟩) l.length cap)).setCell ⟨w.heap.size, 1, none⟩ (.pointer (some ⟨w.heap.size + 1, 0, none⟩))).setCell ⟨w.heap.size, 2, none⟩ (.slice none 0 0)).setCell ⟨w.heap.size, 3, none⟩ (.slice (some ⟨w3.heap.size, 0, none⟩) 1 1)).heap.size = w3.heap.size := by simp
  generalize ((((w3.setCell ⟨w.heap.size, 0, none⟩ (.slice (some ⟨g, off, none⟩) l.length cap)).setCell ⟨w.heap.size, 1, none⟩ (.pointer (some ⟨w.heap.size + 1, 0, none⟩))).setCell ⟨w.heap.size, 2, none⟩ (.slice none 0 0)).setCell ⟨w.heap.size, 3, none⟩ (.slice (some ⟨w3.heap.size, 0, none⟩) 1 1)) = w4 at GE hse
  have GA := World.grownBy_alloc w4 (.cells #[p, a, .int .i64 n, .int .u16 (onesIn l n : Nat)] 69) none
  obtain ⟨q0, q1, q2, q3, q4, _⟩ := cells4 w4 p a (.int .i64 n) (.int .u16 (onesIn l n : Nat)) 69
  rw [hse] at q0 q1 q2 q3 q4
  obtain ⟨u, hu⟩ := (unhide HO).rdr
  have hP := (unhide HO).packed
  have hA := (unhide HO).ahead
  rw [hs1] at hP hA
  have hP2 := (hP.kept GE (by
    cases eo : p.ownBlock with
    | none => exact Or.inl rfl
    | some j => have := (hP.lt eo).1; exact Or.inr (by intro e; injection e with e; omega))).kept0 GA
  have hA1 : Us w4 _ a _ := World.ownsRow.kept hA GE (by
    cases eo : a.ownBlock with
    | none => exact Or.inl rfl
    | some j => have := (World.ownsRow.lt hA j eo).1; exact Or.inr (by intro e; injection e with e; omega))
  have hA2 := hA1.kept0 GA
  refine ⟨⟨u, (hu.grown GE (by intro e; injection e with e; omega) (by intro e; injection e with e; omega) (by omega)).grown GA (by simp) (by simp) (by omega)⟩, ⟨q1, q2, q3, q4, hP2.mono (Nat.zero_le _), ?_⟩, hP2.mono (by omega), ?_, by omega, by omega, ?_⟩
  · exact ⟨hA2.1, hA2.2.imp id fun ⟨g, cap, cur, a, b, c⟩ => ⟨g, cap, cur, a, Nat.zero_le _, c⟩⟩
  · exact ⟨hA2.1, hA2.2.imp id fun ⟨g, cap, cur, a, b, c⟩ => ⟨g, cap, cur, a, by omega, c⟩⟩
  · exact grown_trans (grown_trans (grown_trans (grown_trans (unhide HG0) (unhide HG1) (Or.inl rfl)) (unhide HG3) (Or.inr ⟨_, rfl, by omega⟩)) GE (Or.inr ⟨_, rfl, Nat.le_refl _⟩)) GA (Or.inl rfl)
end Go.Proofs.YthlincikgdblfaaGreat
