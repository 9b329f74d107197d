import Derived.Test.YthlincikgdblfaaGreatZ20
import Derived.Deep.RegionWith
import Derived.RegionDies
namespace Go.Proofs.YthlincikgdblfaaGreat
set_option linter.unusedVariables false
namespace Rot
theorem lower_to (col : List UInt8) (j : Nat) (hj : j ≤ col.length) : ∀ m, m ≤ col.length → (List.range m).countP (fun k => ahead col k j) = (col.take m).countP (fun x => decide (x < at' col j)) + (col.take (min m j)).countP (fun x => x == at' col j)
  | 0, _ => by simp
  | m + 1, h => by
    have hm : m < col.length := by omega
    rw [List.range_succ, List.countP_append, lower_to col j hj m (by omega), List.take_succ_eq_append_getElem hm, List.countP_append]
    simp only [List.countP_cons, List.countP_nil, Nat.zero_add]
    have e : at' col m = col[m] := by unfold at'; rw [List.getElem?_eq_getElem hm]; rfl
    unfold ahead
    rw [e]
    by_cases hmj : m < j
    · rw [show min (m + 1) j = m + 1 by omega, show min m j = m by omega, List.take_succ_eq_append_getElem hm, List.countP_append]
      simp only [List.countP_cons, List.countP_nil, Nat.zero_add]
      have hd : decide (m < j) = true := by simpa using hmj
      rw [hd]
      by_cases h1 : col[m] < at' col j
      · have h2 : (col[m] == at' col j) = false := by
          simp only [beq_eq_false_iff_ne]
          intro e2
          rw [e2] at h1
          exact absurd h1 (by rw [UInt8.lt_iff_toNat_lt]; omega)
        rw [h2]
        simp [h1]
        omega
      · by_cases h3 : col[m] = at' col j
        · simp [h3, UInt8.lt_iff_toNat_lt]
          omega
        · simp [h1, h3]
    · rw [show min (m + 1) j = j by omega, show min m j = j by omega]
      have hd : decide (m < j) = false := by simpa using hmj
      rw [hd]
      simp
      omega
theorem lower_split (col : List UInt8) (j : Nat) (hj : j ≤ col.length) : lower col j = (col.filter fun x => decide (x.toNat < (at' col j).toNat)).length + (col.take j).countP (fun x => x == at' col j) := by
  unfold lower
  rw [lower_to col j hj col.length (Nat.le_refl _), List.take_length, show min col.length j = j by omega, ← List.countP_eq_length_filter]
  congr 1
/-- A step back, by FIRST and the equal bytes ahead. -/
theorem back_first (col : List UInt8) (last i : Nat) (hp : placeOf last i < col.length) : back col last i = belowOf col (at' col (placeOf last i)).toNat + (col.take (placeOf last i)).countP (fun x => x == at' col (placeOf last i)) := by
  unfold back belowOf
  rw [lower_split col _ (by omega), Nat.add_assoc]
theorem below_succ (col : List UInt8) (c : UInt8) : belowOf col (c.toNat + 1) = belowOf col c.toNat + col.countP (fun x => x == c) := by
  unfold belowOf
  rw [Nat.add_assoc]
  congr 1
  rw [← List.countP_eq_length_filter, ← List.countP_eq_length_filter]
  induction col with
  | nil => rfl
  | cons a l ih =>
    simp only [List.countP_cons, ih]
    by_cases h1 : a.toNat < c.toNat
    · have h2 : (a == c) = false := by
        simp only [beq_eq_false_iff_ne]
        intro e; subst e; omega
      have h3 : a.toNat < c.toNat + 1 := by omega
      rw [h2]
      simp [h1, h3]
      omega
    · by_cases h2 : a = c
      · subst h2
        simp
        omega
      · have h3 : ¬ a.toNat < c.toNat + 1 := by
          intro h
          apply h2
          apply UInt8.toNat_inj.1
          omega
        simp [h1, h2, h3]
theorem below_zero (col : List UInt8) : belowOf col 0 = 1 := by simp [belowOf]
theorem below_le (col : List UInt8) (c : Nat) : belowOf col c ≤ 1 + col.length := by
  unfold belowOf
  have := List.length_filter_le (fun b : UInt8 => decide (b.toNat < c)) col
  omega
/-- That the steps come to the last row needs no looking at: all others have been met. -/
theorem whole_of {col : List UInt8} {last : Nat} (hl : last ≤ col.length) (on : ∀ k, k < col.length → walk col last k ≠ last) : Whole col last := by
  have le : ∀ k, k ≤ col.length → walk col last k ≤ col.length := by
    intro k
    induction k with
    | zero => intro _; exact Nat.zero_le _
    | succ k ih =>
      intro h
      have h2 := lower_bound (placeOf_lt hl (ih (by omega)) (on k (by omega)))
      show 1 + lower col (placeOf last (walk col last k)) ≤ col.length
      omega
  have inj : ∀ a b, a ≤ col.length → b ≤ col.length → walk col last a = walk col last b → a = b := by
    intro a
    induction a with
    | zero =>
      intro b _ _ h
      cases b with
      | zero => rfl
      | succ b => simp only [walk, back] at h; omega
    | succ a ih =>
      intro b ha hb h
      cases b with
      | zero => simp only [walk, back] at h; omega
      | succ b =>
        have h1 : lower col (placeOf last (walk col last a)) = lower col (placeOf last (walk col last b)) := by simp only [walk, back] at h; omega
        have h2 := lower_inj (placeOf_lt hl (le a (by omega)) (on a (by omega))) (placeOf_lt hl (le b (by omega)) (on b (by omega))) h1
        have h3 := placeOf_inj (on a (by omega)) (on b (by omega)) h2
        rw [ih b (by omega) (by omega) h3]
  have hperm : ((List.range (col.length + 1)).map (walk col last)).Perm (List.range (col.length + 1)) := by
    refine nodup_full _ _ ?_ ?_ (by simp)
    · rw [List.nodup_iff_pairwise_ne, List.pairwise_map]
      refine List.Pairwise.imp_of_mem ?_ List.nodup_range
      intro a b ha hb hab h
      exact hab (inj a b (by have := List.mem_range.1 ha; omega) (by have := List.mem_range.1 hb; omega) h)
    · intro x hx
      obtain ⟨k, hk, rfl⟩ := List.mem_map.1 hx
      have := le k (by have := List.mem_range.1 hk; omega)
      omega
  have hm : last ∈ (List.range (col.length + 1)).map (walk col last) := hperm.mem_iff.2 (List.mem_range.2 (by omega))
  obtain ⟨k, hk, hkl⟩ := List.mem_map.1 hm
  have hk := List.mem_range.1 hk
  have : k = col.length := by
    rcases Nat.lt_or_ge k col.length with h | h
    · exact absurd hkl (on k h)
    · omega
  subst this
  exact ⟨hl, on, hkl⟩
end Rot
end Go.Proofs.YthlincikgdblfaaGreat

namespace Go.Proofs.YthlincikgdblfaaGreat
open Go.RowKit
set_option linter.unusedVariables false

/-- THE ROWS AT BLOCK x: what they say of the bytes s. -/
structure Xv (w : World) (x : Nat) (s : List UInt8) (n r last : Nat) (F : Nat → Nat) (M : List UInt8) (Q : List Nat) : Prop where
  len : w.cell? ⟨x, 0, none⟩ = some (.int .i64 (n : Int))
  rate : w.cell? ⟨x, 1, none⟩ = some (.int .i64 (r : Int))
  last : w.cell? ⟨x, 2, none⟩ = some (.int .i64 (last : Int))
  tree : Tv w x 3 s 44 n
  first : ∀ c, c < 256 → w.cell? ⟨x, 43 + c, none⟩ = some (.int .u16 (F c : Nat)) ∧ F c < 65536
  marks : ∃ p a D, Bv w x 299 p a M D (n + 1) (Rot.os M (n + 1)) ∧ Dir M D (n + 1)
  places : ∃ v, w.cell? ⟨x, 303, none⟩ = some v ∧ Us w 0 v Q
theorem Xv.drewN {w : World} {x : Nat} {s : List UInt8} {n r last : Nat} {F : Nat → Nat} {M : List UInt8} {Q : List Nat} (h : Xv w x s n r last F M Q) (j : Nat) : Xv (w.drewN j) x s n r last F M Q := by
  obtain ⟨p, a, D, hb, hd⟩ := h.marks
  exact ⟨h.len, h.rate, h.last, h.tree.drewN j, h.first, ⟨p, a, D, hb.drewN j, hd⟩, h.places⟩
/-- Where the byte of a row stands in the column. -/
theorem inColumn_any (x last i : Nat) (w : World) (h : w.cell? ⟨x, 2, none⟩ = some (.int .i64 (last : Int))) (hl : last ≤ 300) (hi : i ≤ 300) :
    Calls Tryz.prog 89 #[.pointer (some ⟨x, 0, none⟩), .int .i64 i] w fun e w' => e = .returned (.int .i64 (Rot.placeOf last i : Nat)) ∧ w' = w := by
  by_cases hgt : last < i
  · have e : Rot.placeOf last i = i - 1 := by unfold Rot.placeOf; rw [if_pos hgt]
    rw [e]
    obtain ⟨i', hi'⟩ : ∃ i' : Nat, i = i' + 1 := ⟨i - 1, by omega⟩
    subst hi'
    rw [Nat.add_sub_cancel]
    have hd : decide ((last : Int) < ((i' + 1 : Nat) : Int)) = true := by simp; omega
    clear e
    go_enter Tryz.func89, Tryz.ntmps89
    go_wp2_with fail
    go_ret
    exact ⟨by first | rfl | go_num, rfl⟩
  · have e : Rot.placeOf last i = i := by unfold Rot.placeOf; rw [if_neg hgt]
    rw [e]
    have hd : decide ((last : Int) < (i : Int)) = false := by simp; omega
    clear e
    go_enter Tryz.func89, Tryz.ntmps89
    go_wp2_with fail
    go_ret
    exact ⟨rfl, rfl⟩
/-- A step back. -/
theorem rowsBack_any (x : Nat) (s : List UInt8) (n r last : Nat) (F : Nat → Nat) (M : List UInt8) (Q : List Nat) (i : Nat) (w : World) (h : Xv w x s n r last F M Q) (hF : ∀ c, c < 256 → F c = Rot.belowOf (Rot.colRead s 44 n) c) (hn : n ≤ 250) (hl : last ≤ n) (hi : i ≤ n) (hne : i ≠ last) :
    Calls Tryz.prog 59 #[.pointer (some ⟨x, 0, none⟩), .int .i64 i] w fun e w' => e = .returned (.tuple #[.int .u8 ((Rot.at' (Rot.colRead s 44 n) (Rot.placeOf last i)).toNat : Nat), .int .i64 (Rot.back (Rot.colRead s 44 n) last i : Nat)]) ∧ ∃ j, w' = w.drewN j := by
  have hp := Rot.placeOf_lt hl hi hne
  have hcl := Rot.colRead_len s 44 n
  have hB := Rot.back_first (Rot.colRead s 44 n) last i (by omega)
  have hcode : (Rot.at' (Rot.colRead s 44 n) (Rot.placeOf last i)).toNat = Rot.code s 44 n (Rot.placeOf last i) 8 := by
    have hlen : Rot.placeOf last i < (Rot.colRead s 44 n).length := by omega
    unfold Rot.at'
    rw [List.getElem?_eq_getElem hlen]
    exact Rot.colRead_get s 44 n _ hlen
  have hcx : (Rot.at' (Rot.colRead s 44 n) (Rot.placeOf last i)).toNat < 256 := (Rot.at' (Rot.colRead s 44 n) (Rot.placeOf last i)).toNat_lt
  have hfc := (h.first _ hcx).1
  rw [hF _ hcx] at hfc
  have hbl := Rot.below_le (Rot.colRead s 44 n) (Rot.at' (Rot.colRead s 44 n) (Rot.placeOf last i)).toNat
  have hcount : ((Rot.colRead s 44 n).take (Rot.placeOf last i)).countP (fun x => x == Rot.at' (Rot.colRead s 44 n) (Rot.placeOf last i)) ≤ 300 := by
    have := List.countP_le_length (p := fun x => x == Rot.at' (Rot.colRead s 44 n) (Rot.placeOf last i)) (l := (Rot.colRead s 44 n).take (Rot.placeOf last i))
    rw [List.length_take] at this
    omega
  have hcon := fun w' h' => at_any x 3 s 44 n (Rot.placeOf last i) w' h' (by omega) hp
  rw [← hcode] at hcon
  have clast := h.last
  have HT := hide h.tree
  clear h hF hcode
  generalize (Rot.at' (Rot.colRead s 44 n) (Rot.placeOf last i)).toNat = c at hB hcx hfc hbl hcon
  generalize ((Rot.colRead s 44 n).take (Rot.placeOf last i)).countP (fun x => x == Rot.at' (Rot.colRead s 44 n) (Rot.placeOf last i)) = cn at hB hcount hcon
  generalize Rot.belowOf (Rot.colRead s 44 n) c = bo at hB hfc hbl
  generalize Rot.back (Rot.colRead s 44 n) last i = bk at hB
  rw [hcl] at hbl
  have HB := hide hB
  clear hB hcl
  have hcon2 := fun jj => hcon (w.drewN jj) ((unhide HT).drewN jj)
  have hic := fun jj => inColumn_any x last i (w.drewN jj) clast (by omega) (by omega)
  generalize Rot.placeOf last i = pl at hcon2 hp hic hcon
  clear hcon HT
  go_enter Tryz.func59, Tryz.ntmps59
  go_wp2_with fail
  go_quiet (first | (go_at_call 88; exact Calls.quiet_of (hcon2 _)) | (go_at_call 89; exact Calls.quiet_of_same (hic _)))
  clear hcon2 hic
  go_wp2_with fail
  go_quiet (fail)
  go_wp2_with fail
  go_ret2
  refine ⟨?_, _, World.drewN_drewN _ _ _⟩
  rw [unhide HB]
  rfl
end Go.Proofs.YthlincikgdblfaaGreat

namespace Go.Proofs.YthlincikgdblfaaGreat
open Go.RowKit
set_option linter.unusedVariables false

/-- Is a row marked and placed as a row at that place must be? -/
def markOk (M : List UInt8) (Q : List Nat) (r row at' : Nat) : Prop := (Rot.bitAt M 0 row == 1) = Rot.isMarked r at' ∧ (Rot.bitAt M 0 row = 1 → (Q[Rot.os M row]?).getD 0 = at')
theorem os_bit_lt {M : List UInt8} {k n : Nat} (hk : k < n) (hb : Rot.bitAt M 0 k = 1) : Rot.os M k < Rot.os M n := by
  have h1 := Rot.os_succ M k
  have key : ∀ d, Rot.os M (k + 1) ≤ Rot.os M (k + 1 + d) := by
    intro d
    induction d with
    | zero => exact Nat.le_refl _
    | succ d ih => have := Rot.os_succ M (k + 1 + d); rw [← Nat.add_assoc]; omega
  have h2 := key (n - (k + 1))
  rw [show k + 1 + (n - (k + 1)) = n by omega] at h2
  omega
set_option maxRecDepth 100000 in
set_option maxHeartbeats 1000000 in
theorem mark_any (x : Nat) (s : List UInt8) (n r last : Nat) (F : Nat → Nat) (M : List UInt8) (Q : List Nat) (row pl : Nat) (w : World) (h : Xv w x s n r last F M Q) (hQ : Q.length = Rot.os M (n + 1)) (hQb : ∀ q ∈ Q, q < 65536) (hn : n ≤ 250) (hr : isRate (r : Int) = true) (hrow : row ≤ n) (hpl : pl ≤ n) :
    Calls Tryz.prog 87 #[.pointer (some ⟨x, 0, none⟩), .int .i64 row, .int .i64 pl] w fun e w' => ((e = .returned (.tuple #[]) ∧ markOk M Q r row pl) ∨ (e = .panicked (gu 4) ∧ ¬ markOk M Q r row pl)) ∧ ∃ j, w' = w.drewN j := by
  have hr8 : 1 ≤ r ∧ r ≤ 8 := by
    unfold isRate at hr
    simp at hr
    omega
  obtain ⟨hr1, hr2⟩ := hr8
  obtain ⟨p, a, D, hB, hD⟩ := h.marks
  have hPl := hD.1
  have hcb := fun j => bit_any x 299 p a M D (n + 1) _ row (w.drewN j) (hB.drewN j) (by omega) (by omega)
  have hco := fun j => ones_any x 299 p a M D (n + 1) row (w.drewN j) (hB.drewN j) (by omega) (fun _ => hD) (by omega)
  have hcm := fun j => isMarked_any pl r (w.drewN j) (by omega) hr1 hr2
  obtain ⟨v, hv, hU⟩ := h.places
  have crate := h.rate
  have HM : Hid (markOk M Q r row pl ↔ ((Rot.bitAt M 0 row == 1) = Rot.isMarked r pl ∧ (Rot.bitAt M 0 row = 1 → (Q[Rot.os M row]?).getD 0 = pl))) := Iff.rfl
  have hos : Rot.bitAt M 0 row = 1 → Rot.os M row < Q.length := fun hb => by rw [hQ]; exact os_bit_lt (by omega) hb
  have hbl := Rot.bitAt_lt M 0 row
  have hob := Rot.os_le M row
  have hQl : Q.length ≤ 300 := by rw [hQ]; have := Rot.os_le M (n + 1); omega
  clear h hB hD hQ hPl
  by_cases hbit : Rot.bitAt M 0 row = 1
  · have hlt := hos hbit
    rw [hbit] at hcb HM
    obtain ⟨g, cap, rfl, hcap, hcell⟩ := hU.slice (by omega)
    have cq := hcell _ hlt
    have hqb := hQb _ (List.getElem_mem hlt)
    rw [List.getElem?_eq_getElem hlt] at HM
    simp only [Option.getD_some] at HM
    generalize Q[Rot.os M row]'hlt = q at cq hqb HM
    generalize Rot.os M row = o at hco hlt cq hob
    clear hcell hU hos hQb hbit hbl
    have hbe : ((1 : Nat) == 1) = true := rfl
    rw [hbe] at hcb HM
    cases hmk : Rot.isMarked r pl with
    | false =>
      rw [hmk] at hcm HM
      have HN : Hid (¬ markOk M Q r row pl) := fun h => by have := ((unhide HM).1 h).1; cases this
      clear HM hmk
      go_enter Tryz.func87, Tryz.ntmps87
      go_wp2_with fail
      refine (hcb 0).mono ?_
      rintro e w1 ⟨rfl, rfl⟩
      go_wp2_with fail
      refine (hcm 0).mono ?_
      rintro e w1 ⟨rfl, rfl⟩
      go_wp2_with fail
      refine (must_no _).mono ?_
      rintro e w1 ⟨rfl, rfl⟩
      go_wp2_with fail
      exact ⟨rfl, Or.inr ⟨rfl, unhide HN⟩, 0, rfl⟩
    | true =>
      rw [hmk] at hcm HM
      by_cases hq : q = pl
      · have HY : Hid (markOk M Q r row pl) := (unhide HM).2 ⟨rfl, fun _ => hq⟩
        have hqe : ((q : Int) == (pl : Int)) = true := by simp [hq]
        clear HM hmk hq
        go_enter Tryz.func87, Tryz.ntmps87
        go_wp2_with fail
        refine (hcb 0).mono ?_
        rintro e w1 ⟨rfl, rfl⟩
        go_wp2_with fail
        refine (hcm 0).mono ?_
        rintro e w1 ⟨rfl, rfl⟩
        go_wp2_with fail
        refine (must_yes _).mono ?_
        rintro e w1 ⟨rfl, rfl⟩
        go_wp2_with fail
        go_quiet (first | (go_at_call 83; exact Calls.quiet_of (hco _)) | (go_at_call 76; exact Calls.quiet_of_same (must_yes _)))
        go_wp2_with fail
        go_end0
        exact ⟨Or.inl ⟨rfl, unhide HY⟩, _, rfl⟩
      · have HN : Hid (¬ markOk M Q r row pl) := fun h => hq (((unhide HM).1 h).2 trivial)
        have hqe : ((q : Int) == (pl : Int)) = false := by simp; omega
        have hqw : IntKind.i64.wrap (q : Int) = (q : Int) := by rw [IntKind.wrap_i64]; omega
        clear HM hmk hq
        go_enter Tryz.func87, Tryz.ntmps87
        go_wp2_with fail
        refine (hcb 0).mono ?_
        rintro e w1 ⟨rfl, rfl⟩
        go_wp2_with fail
        refine (hcm 0).mono ?_
        rintro e w1 ⟨rfl, rfl⟩
        go_wp2_with fail
        refine (must_yes _).mono ?_
        rintro e w1 ⟨rfl, rfl⟩
        go_wp2_with fail
        go_region_dies
        all_goals
          refine (hco 1).mono ?_
          rintro e w1 ⟨rfl, j, rfl⟩
          simp only []
          rename_i hK
          repeat (refine hK _ _ ?_; clear hK; (first | refine wpAny_ready (rs := [0]) (by decide +kernel) (by simp) ?_ | refine wpAny_ready (rs := [1]) (by decide +kernel) (by simp) ?_ | refine wpAny_ready (rs := [2]) (by decide +kernel) (by simp) ?_ | refine wpAny_ready (rs := [3]) (by decide +kernel) (by simp) ?_ | refine wpAny_ready (rs := [4]) (by decide +kernel) (by simp) ?_ | refine wpAny_ready (rs := [5]) (by decide +kernel) (by simp) ?_ | refine wpAny_ready (rs := [6]) (by decide +kernel) (by simp) ?_ | refine wpAny_ready (rs := [7]) (by decide +kernel) (by simp) ?_ | refine wpAny_ready (rs := [8]) (by decide +kernel) (by simp) ?_ | refine wpAny_ready (rs := [9]) (by decide +kernel) (by simp) ?_ | refine wpAny_ready (rs := [10]) (by decide +kernel) (by simp) ?_ | refine wpAny_ready (rs := [11]) (by decide +kernel) (by simp) ?_ | refine wpAny_ready (rs := [12]) (by decide +kernel) (by simp) ?_ | refine wpAny_ready (rs := [13]) (by decide +kernel) (by simp) ?_ | refine wpAny_ready (rs := [14]) (by decide +kernel) (by simp) ?_); refine AllReady.cons rfl (fun K hK => ?_) AllReady.nil; go_simp)
          refine (must_no _).mono ?_
          rintro e w2 ⟨rfl, rfl⟩
          simp only []
          exact ⟨rfl, Or.inr ⟨rfl, unhide HN⟩, _, rfl⟩
  · have hb0 : Rot.bitAt M 0 row = 0 := by omega
    rw [hb0] at hcb HM
    have hbe : ((0 : Nat) == 1) = false := rfl
    rw [hbe] at hcb HM
    clear hU hos hQb hbit hbl hb0 hv
    cases hmk : Rot.isMarked r pl with
    | true =>
      rw [hmk] at hcm HM
      have HN : Hid (¬ markOk M Q r row pl) := fun h => by have := ((unhide HM).1 h).1; cases this
      clear HM hmk
      go_enter Tryz.func87, Tryz.ntmps87
      go_wp2_with fail
      refine (hcb 0).mono ?_
      rintro e w1 ⟨rfl, rfl⟩
      go_wp2_with fail
      refine (hcm 0).mono ?_
      rintro e w1 ⟨rfl, rfl⟩
      go_wp2_with fail
      refine (must_no _).mono ?_
      rintro e w1 ⟨rfl, rfl⟩
      go_wp2_with fail
      exact ⟨rfl, Or.inr ⟨rfl, unhide HN⟩, 0, rfl⟩
    | false =>
      rw [hmk] at hcm HM
      have HY : Hid (markOk M Q r row pl) := (unhide HM).2 ⟨rfl, fun h => by cases h⟩
      clear HM hmk
      go_enter Tryz.func87, Tryz.ntmps87
      go_wp2_with fail
      refine (hcb 0).mono ?_
      rintro e w1 ⟨rfl, rfl⟩
      go_wp2_with fail
      refine (hcm 0).mono ?_
      rintro e w1 ⟨rfl, rfl⟩
      go_wp2_with fail
      refine (must_yes _).mono ?_
      rintro e w1 ⟨rfl, rfl⟩
      go_wp2_with fail
      go_end0
      exact ⟨Or.inl ⟨rfl, unhide HY⟩, 0, rfl⟩
end Go.Proofs.YthlincikgdblfaaGreat
