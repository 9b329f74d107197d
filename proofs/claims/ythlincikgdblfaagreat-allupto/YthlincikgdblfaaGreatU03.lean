import Derived.Test.YthlincikgdblfaaGreatV16
import Derived.Test.YthlincikgdblfaaGreatV09
import Derived.Test.YthlincikgdblfaaGreatV33
namespace Go.Proofs.YthlincikgdblfaaGreat
set_option linter.unusedVariables false
namespace Rot

/-! The rows whose ends begin with something -/
theorem placeOf_mono {last i j : Nat} (h : i ≤ j) : placeOf last i ≤ placeOf last j := by
  unfold placeOf; split <;> split <;> omega
theorem placeOf_succ {last i j : Nat} (h : i < j) (hi : i ≠ last) : placeOf last i + 1 ≤ placeOf last j := by
  unfold placeOf; split <;> split <;> omega
theorem placeOf_all {n last i : Nat} (hl : last ≤ n) (hi : i ≤ n + 1) : placeOf last i ≤ n := by
  unfold placeOf; split <;> omega
def rank (col : List UInt8) (c : UInt8) (k : Nat) : Nat := (col.take k).countP fun x => x == c
theorem rank_mono (col : List UInt8) (c : UInt8) {i j : Nat} (h : i ≤ j) : rank col c i ≤ rank col c j := by
  unfold rank
  have e : col.take i = (col.take j).take i := by rw [List.take_take, Nat.min_eq_left h]
  rw [e]
  exact (List.take_sublist _ _).countP_le
theorem rank_succ {col : List UInt8} {c : UInt8} {k : Nat} (hk : k < col.length) (h : at' col k = c) : rank col c (k + 1) = rank col c k + 1 := by
  unfold rank
  rw [List.take_succ_eq_append_getElem hk, List.countP_append]
  have e : col[k] = c := by
    rw [← h]
    unfold at'
    rw [List.getElem?_eq_getElem hk]
    rfl
  simp [e]
theorem rank_le (col : List UInt8) (c : UInt8) (k : Nat) : rank col c k ≤ col.countP fun x => x == c := (List.take_sublist _ _).countP_le
theorem below_mono (col : List UInt8) {a b : Nat} (h : a ≤ b) : belowOf col a ≤ belowOf col b := by
  unfold belowOf
  rw [← List.countP_eq_length_filter, ← List.countP_eq_length_filter]
  have := List.countP_mono_left (l := col) (p := fun x : UInt8 => decide (x.toNat < a)) (q := fun x : UInt8 => decide (x.toNat < b)) (fun x _ hx => by simp at hx ⊢; omega)
  omega
theorem below_pos (col : List UInt8) (c : Nat) : 1 ≤ belowOf col c := by unfold belowOf; omega
/-- Where an end would stand that is c with the end of row i behind it. -/
def would (col : List UInt8) (last : Nat) (c : UInt8) (i : Nat) : Nat := belowOf col c.toNat + rank col c (placeOf last i)
theorem would_le (col : List UInt8) (last : Nat) (c : UInt8) (i : Nat) : would col last c i ≤ belowOf col (c.toNat + 1) := by
  unfold would
  rw [below_succ]
  have := rank_le col c (placeOf last i)
  omega
theorem would_all (col : List UInt8) (last : Nat) (c : UInt8) (i : Nat) : would col last c i ≤ col.length + 1 := by
  have := would_le col last c i
  have := below_le col (c.toNat + 1)
  omega
theorem would_mono (col : List UInt8) (last : Nat) (c : UInt8) {i j : Nat} (h : i ≤ j) : would col last c i ≤ would col last c j := by
  unfold would
  have := rank_mono col c (placeOf_mono (last := last) h)
  omega
/-- The rows from a on up to b, without it, are those whose ends begin with q. -/
def Begins (col : List UInt8) (last : Nat) (q : List UInt8) (a b : Nat) : Prop := a ≤ b ∧ b ≤ col.length + 1 ∧ ∀ i, i ≤ col.length → ((a ≤ i ∧ i < b) ↔ q <+: spell col last (metAt col last i))
theorem begins_nil (col : List UInt8) (last : Nat) : Begins col last [] 0 (col.length + 1) := ⟨by omega, by omega, fun i hi => ⟨fun _ => List.nil_prefix, fun _ => ⟨by omega, by omega⟩⟩⟩
theorem begins_cons {col : List UInt8} {last : Nat} (H : Whole col last) {q : List UInt8} {a b : Nat} (h : Begins col last q a b) (c : UInt8) : Begins col last (c :: q) (would col last c a) (would col last c b) := by
  obtain ⟨h1, h2, h3⟩ := h
  refine ⟨would_mono _ _ _ h1, would_all _ _ _ _, fun i hi => ?_⟩
  obtain ⟨m1, m2⟩ := metAt_le H hi
  have ba := below_pos col c.toNat
  cases hm : metAt col last i with
  | zero =>
    rw [hm] at m2
    have hi0 : i = 0 := m2.symm
    subst hi0
    constructor
    · rintro ⟨h, _⟩
      unfold would at h
      omega
    · intro h
      simp [spell] at h
  | succ k =>
    rw [hm] at m1 m2
    have hkn : k < col.length := by omega
    have hj := walk_le H k (by omega)
    have hne := H.on k hkn
    have hp := walk_place H hkn
    have hmj := metAt_walk H (k := k) (by omega)
    have e3 := h3 (walk col last k) hj
    rw [hmj] at e3
    have e1 : i = belowOf col (at' col (placeOf last (walk col last k))).toNat + rank col (at' col (placeOf last (walk col last k))) (placeOf last (walk col last k)) := by
      rw [← m2]
      exact back_first col last _ hp
    simp only [spell, List.cons_prefix_cons]
    generalize walk col last k = j at *
    have rs := rank_succ hp rfl
    have rl := rank_le col (at' col (placeOf last j)) (placeOf last j + 1)
    have bs := below_succ col (at' col (placeOf last j))
    constructor
    · rintro ⟨g1, g2⟩
      have hc : c = at' col (placeOf last j) := by
        apply UInt8.toNat_inj.1
        by_cases l1 : c.toNat < (at' col (placeOf last j)).toNat
        · have x1 := below_mono col (a := c.toNat + 1) (b := (at' col (placeOf last j)).toNat) l1
          have x2 := would_le col last c b
          omega
        · by_cases l2 : (at' col (placeOf last j)).toNat < c.toNat
          · have x1 := below_mono col (a := (at' col (placeOf last j)).toNat + 1) (b := c.toNat) l2
            unfold would at g1
            omega
          · omega
      refine ⟨hc, e3.1 ?_⟩
      subst hc
      unfold would at g1 g2
      constructor
      · by_cases l1 : a ≤ j
        · exact l1
        · have x1 := rank_mono col (at' col (placeOf last j)) (placeOf_succ (last := last) (i := j) (j := a) (by omega) hne)
          omega
      · by_cases l1 : j < b
        · exact l1
        · have x1 := rank_mono col (at' col (placeOf last j)) (placeOf_mono (last := last) (i := b) (j := j) (by omega))
          omega
    · rintro ⟨hc, g⟩
      subst hc
      obtain ⟨g1, g2⟩ := e3.2 g
      unfold would
      have x1 := rank_mono col (at' col (placeOf last j)) (placeOf_mono (last := last) g1)
      have x2 := rank_mono col (at' col (placeOf last j)) (placeOf_succ (last := last) g2 hne)
      constructor
      · omega
      · omega
theorem begins_none {col : List UInt8} {last : Nat} (H : Whole col last) {q : List UInt8} {a : Nat} (h : Begins col last q a a) (p : List UInt8) : Begins col last (p ++ q) a a := by
  obtain ⟨h1, h2, h3⟩ := h
  refine ⟨h1, h2, fun i hi => ⟨fun h => by omega, fun h => ?_⟩⟩
  exfalso
  obtain ⟨m1, m2⟩ := metAt_le H hi
  obtain ⟨z, hz⟩ := h
  have hl := congrArg List.length hz
  rw [spell_len] at hl
  simp only [List.length_append] at hl
  have e := congrArg (List.drop p.length) hz
  rw [List.append_assoc, List.drop_left, show p.length = metAt col last i - (metAt col last i - p.length) by omega, spell_drop _ _ _ _ (by omega)] at e
  have hj := walk_le H (metAt col last i - p.length) (by omega)
  have e3 := (h3 _ hj).2
  rw [metAt_walk H (by omega)] at e3
  have := e3 ⟨z, e⟩
  omega
/-- The places of rows, from row a on. -/
def placesAt (col : List UInt8) (last a m : Nat) : List Nat := (List.range m).map fun d => col.length - metAt col last (a + d)
theorem placesAt_len (col : List UInt8) (last a m : Nat) : (placesAt col last a m).length = m := by simp [placesAt]
theorem placesAt_succ (col : List UInt8) (last a m : Nat) : placesAt col last a (m + 1) = placesAt col last a m ++ [col.length - metAt col last (a + m)] := by
  unfold placesAt
  rw [List.range_succ, List.map_append]
  rfl
theorem stands_iff (t p : List UInt8) (i : Nat) : stands t p i = true ↔ p <+: t.drop i := by
  unfold stands
  rw [beq_iff_eq, List.prefix_iff_eq_take]
  exact eq_comm
theorem mem_places (t p : List UInt8) (y : Nat) : y ∈ placesIn t p ↔ y ≤ t.length ∧ p <+: t.drop y := by
  unfold placesIn
  rw [List.mem_filter, List.mem_range, stands_iff]
  constructor
  · rintro ⟨h1, h2⟩
    exact ⟨by omega, h2⟩
  · rintro ⟨h1, h2⟩
    have := h2.length_le
    rw [List.length_drop] at this
    exact ⟨by omega, h2⟩
theorem begins_perm {col : List UInt8} {last : Nat} (H : Whole col last) {p : List UInt8} {a b : Nat} (h : Begins col last p a b) : (placesAt col last a (b - a)).Perm (placesIn (spell col last col.length) p) := by
  obtain ⟨h1, h2, h3⟩ := h
  rw [List.perm_ext_iff_of_nodup]
  · intro y
    rw [mem_places, spell_len]
    unfold placesAt
    rw [List.mem_map]
    constructor
    · rintro ⟨d, hd, rfl⟩
      have hd := List.mem_range.1 hd
      refine ⟨by omega, ?_⟩
      rw [rowsBack_end H (by omega)]
      exact (h3 (a + d) (by omega)).1 ⟨by omega, by omega⟩
    · rintro ⟨hy, hp⟩
      have hw := walk_le H (col.length - y) (by omega)
      have hm := metAt_walk H (k := col.length - y) (by omega)
      have e : (spell col last col.length).drop y = spell col last (col.length - y) := by
        have := spell_drop col last col.length (col.length - y) (by omega)
        rwa [show col.length - (col.length - y) = y by omega] at this
      rw [e] at hp
      have h4 := h3 _ hw
      rw [hm] at h4
      obtain ⟨g1, g2⟩ := h4.2 hp
      refine ⟨walk col last (col.length - y) - a, List.mem_range.2 (by omega), ?_⟩
      rw [show a + (walk col last (col.length - y) - a) = walk col last (col.length - y) by omega, hm]
      omega
  · unfold placesAt
    rw [List.nodup_iff_pairwise_ne, List.pairwise_map]
    refine List.Pairwise.imp_of_mem ?_ List.nodup_range
    intro x y hx hy hxy he
    have hx := List.mem_range.1 hx
    have hy := List.mem_range.1 hy
    obtain ⟨x1, x2⟩ := metAt_le H (i := a + x) (by omega)
    obtain ⟨y1, y2⟩ := metAt_le H (i := a + y) (by omega)
    have : metAt col last (a + x) = metAt col last (a + y) := by omega
    rw [this, y2] at x2
    omega
  · unfold placesIn
    exact List.nodup_range.filter _
theorem begins_count {col : List UInt8} {last : Nat} (H : Whole col last) {p : List UInt8} {a b : Nat} (h : Begins col last p a b) : b - a = (placesIn (spell col last col.length) p).length := by
  have := (begins_perm H h).length_eq
  rwa [placesAt_len] at this
theorem places_sorted (t p : List UInt8) : (placesIn t p).Pairwise (· < ·) := by
  unfold placesIn
  exact List.pairwise_lt_range.filter _
/-- Sorted, they are the places where it stands. -/
theorem begins_sorted {col : List UInt8} {last : Nat} (H : Whole col last) {p : List UInt8} {a b : Nat} (h : Begins col last p a b) : ((placesAt col last a (b - a)).map fun (n : Nat) => (n : Int)).mergeSort (fun x y => decide (x ≤ y)) = (placesIn (spell col last col.length) p).map fun (n : Nat) => (n : Int) := by
  have hp := ((begins_perm H h).map fun (n : Nat) => (n : Int))
  have hs := List.pairwise_mergeSort (le := fun (x y : Int) => decide (x ≤ y)) (fun a b c h1 h2 => by simp at *; omega) (fun a b => by simp; omega) ((placesAt col last a (b - a)).map fun (n : Nat) => (n : Int))
  have hq := List.mergeSort_perm ((placesAt col last a (b - a)).map fun (n : Nat) => (n : Int)) (fun x y => decide (x ≤ y))
  refine List.Perm.eq_of_pairwise (le := fun x y : Int => decide (x ≤ y) = true) ?_ hs ?_ (hq.trans hp)
  · intro x y _ _ h1 h2
    simp at h1 h2
    omega
  · rw [List.pairwise_map]
    refine (places_sorted _ _).imp ?_
    intro x y hxy
    simp
    omega
end Rot
end Go.Proofs.YthlincikgdblfaaGreat

namespace Go.Proofs.YthlincikgdblfaaGreat
open Go.RowKit
set_option linter.unusedVariables false

/-- At which row an end would stand. -/
theorem wouldStand_any (x : Nat) (s : List UInt8) (n r last : Nat) (F : Nat → Nat) (M : List UInt8) (Q : List Nat) (c : UInt8) (i : Nat) (w : World) (h : Xv w x s n r last F M Q) (hF : firstOk F s n) (hn : n ≤ 250) (hl : last ≤ n) (hi : i ≤ n + 1) :
    Calls Tryz.prog 100 #[.pointer (some ⟨x, 0, none⟩), .int .u8 (c.toNat : Int), .int .i64 i] w fun e w' => e = .returned (.int .i64 (Rot.would (Rot.colRead s 44 n) last c i : Nat)) ∧ ∃ j, w' = w.drewN j := by
  have hcx : c.toNat < 256 := c.toNat_lt
  have hfc := (h.first _ hcx).1
  rw [hF _ hcx] at hfc
  have hbl := Rot.below_le (Rot.colRead s 44 n) c.toNat
  rw [Rot.colRead_len] at hbl
  have hic := fun jj => inColumn_any x last i (w.drewN jj) h.last (by omega) (by omega)
  have hcon := fun jj => ahead_any x 3 s 44 n (Rot.placeOf last i) c (w.drewN jj) (h.tree.drewN jj) (by omega) (Rot.placeOf_all hl hi)
  have hcount : ((Rot.colRead s 44 n).take (Rot.placeOf last i)).countP (fun x => x == c) ≤ 300 := by
    have := List.countP_le_length (p := fun x => x == c) (l := (Rot.colRead s 44 n).take (Rot.placeOf last i))
    rw [List.length_take, Rot.colRead_len] at this
    omega
  have HB : Hid (Rot.would (Rot.colRead s 44 n) last c i = Rot.belowOf (Rot.colRead s 44 n) c.toNat + ((Rot.colRead s 44 n).take (Rot.placeOf last i)).countP (fun x => x == c)) := rfl
  have hpl := Rot.placeOf_all hl hi
  generalize ((Rot.colRead s 44 n).take (Rot.placeOf last i)).countP (fun x => x == c) = cn at hcon hcount HB
  generalize Rot.belowOf (Rot.colRead s 44 n) c.toNat = bo at hfc hbl HB
  generalize Rot.would (Rot.colRead s 44 n) last c i = wd at HB ⊢
  generalize Rot.placeOf last i = pl at hcon hic hpl
  generalize c.toNat = cc at *
  clear h hF
  go_enter Tryz.func100, Tryz.ntmps100
  go_wp2_with fail
  go_quiet (first | (go_at_call 86; exact Calls.quiet_of (hcon _)) | (go_at_call 89; exact Calls.quiet_of_same (hic _)))
  go_wp2_with fail
  go_ret
  refine ⟨?_, _, rfl⟩
  rw [unhide HB]
  rfl
/-- Behind k bytes of p (from its end). -/
def BegV (col : List UInt8) (n last : Nat) (p : List UInt8) (w : World) (fv tv kv : Value) (wr : World) : Prop := ∃ a b k j : Nat, k ≤ p.length ∧ kv = .int .i64 ((k : Int) - 1) ∧ fv = .int .i64 (a : Int) ∧ tv = .int .i64 (b : Int) ∧ a ≤ b ∧ b ≤ n + 1 ∧ Hid (Rot.Begins col last (p.drop k) a b) ∧ Hid (wr = w.drewN j)
theorem BegV.mk {col : List UInt8} {n last : Nat} {p : List UInt8} {w wr : World} {fv tv kv : Value} (a b k j : Nat) (h1 : k ≤ p.length) (h2 : kv = .int .i64 ((k : Int) - 1)) (h3 : fv = .int .i64 (a : Int)) (h4 : tv = .int .i64 (b : Int)) (h5 : a ≤ b) (h6 : b ≤ n + 1) (h7 : Rot.Begins col last (p.drop k) a b) (h8 : wr = w.drewN j) : BegV col n last p w fv tv kv wr := ⟨a, b, k, j, h1, h2, h3, h4, h5, h6, h7, h8⟩
set_option maxRecDepth 100000 in
set_option maxHeartbeats 1000000 in
/-- The rows whose ends begin with p. -/
theorem beginningWith_any (x : Nat) (s : List UInt8) (n r last : Nat) (F : Nat → Nat) (M : List UInt8) (Q : List Nat) (p : ByteArray) (w : World) (h : Xv w x s n r last F M Q) (hF : firstOk F s n) (hW : Rot.Whole (Rot.colRead s 44 n) last) (hn : n ≤ 250) (hp : p.size ≤ maxLen) :
    Calls Tryz.prog 66 #[.pointer (some ⟨x, 0, none⟩), .string p] w fun e w' => ∃ a b : Nat, e = .returned (.tuple #[.int .i64 (a : Int), .int .i64 (b : Int)]) ∧ a ≤ b ∧ b ≤ n + 1 ∧ Rot.Begins (Rot.colRead s 44 n) last p.data.toList a b ∧ ∃ j, w' = w.drewN j := by
  unfold maxLen at hp
  have hcl := Rot.colRead_len s 44 n
  have clen := h.len
  have hll := hW.le
  rw [hcl] at hll
  have hpl : p.data.toList.length = p.size := by simp
  have HX := hide h
  have HF := hide hF
  have HWh := hide hW
  clear h hF hW
  have HB0 : Hid (Rot.Begins (Rot.colRead s 44 n) last (p.data.toList.drop p.size) 0 (n + 1)) := by
    rw [← hpl, List.drop_length]
    have := Rot.begins_nil (Rot.colRead s 44 n) last
    rwa [hcl] at this
  generalize hcol : Rot.colRead s 44 n = col at HWh HB0 hcl ⊢
  have HCol := hide hcol
  clear hcol
  have HCL := hide hcl
  clear hcl
  go_enter Tryz.func66, Tryz.ntmps66
  go_wp2_with fail
  go_quiet (fail)
  go_wp2_with fail
  go_loopw [4, 5, 6] (fun fv tv kv wr => BegV col n last p.data.toList w fv tv kv wr) (fun _ _ kv _ => (intOf kv + 1).toNat)
  case atStart => exact BegV.mk 0 (n + 1) p.size nq (by omega) (by go_num) rfl (by go_num) (by omega) (by omega) (unhide HB0) rfl
  case round =>
    obtain ⟨a, b, k, j, hk, rfl, rfl, rfl, hab, hbn, HB, HWr⟩ := hrel
    rw [hpl] at hk
    have HXr : Hid (Xv wr x s n r last F M Q) := by rw [unhide HWr]; exact (unhide HX).drewN j
    by_cases hk0 : k = 0
    · subst hk0
      have d1 : decide ((0 : Int) ≤ ((0 : Nat) : Int) - 1) = false := by simp
      have HE : Hid (Rot.Begins col last p.data.toList a b) := by have := unhide HB; rwa [List.drop_zero] at this
      clear HB HX HXr HB0
      go_wp2_with fail
      go_ret2
      exact ⟨a, b, rfl, hab, hbn, unhide HE, j, unhide HWr⟩
    obtain ⟨k', hk'⟩ : ∃ k', k = k' + 1 := ⟨k - 1, by omega⟩
    subst hk'
    have hkk : ((k' + 1 : Nat) : Int) - 1 = (k' : Int) := by omega
    rw [hkk]
    have d1 : decide ((0 : Int) ≤ (k' : Int)) = true := by simp
    by_cases hlt : a < b
    · have d2 : decide ((a : Int) < (b : Int)) = true := by simp; omega
      have hidx : k' < p.size := by omega
      have hws := fun (y : Nat) (hy : y ≤ n + 1) (jj : Nat) => wouldStand_any x s n r last F M Q (p[k']'hidx) y (wr.drewN jj) ((unhide HXr).drewN jj) (unhide HF) hn hll hy
      rw [unhide HCol] at hws
      have HE : Hid (Rot.Begins col last (p.data.toList.drop k') (Rot.would col last (p[k']'hidx) a) (Rot.would col last (p[k']'hidx) b)) := by
        have h1 := Rot.begins_cons (unhide HWh) (unhide HB) (p[k']'hidx)
        have e : p.data.toList.drop k' = (p[k']'hidx) :: p.data.toList.drop (k' + 1) := by
          rw [List.drop_eq_getElem_cons (by omega)]
          rfl
        rw [e]
        exact h1
      have hm := (unhide HE).1
      have hm2 := (unhide HE).2.1
      rw [unhide HCL] at hm2
      generalize Rot.would col last (p[k']'hidx) = W2 at hws HE hm hm2
      have han : a ≤ n + 1 := by omega
      clear HB HX HXr HB0 hkk
      go_wp2_with fail
      go_quiet ((go_at_call 100; exact Calls.quiet_of (hws _ (by assumption) _)))
      go_wp2_with fail
      go_roundw
      case rel => exact BegV.mk (W2 a) (W2 b) k' (j + nq) (by omega) (by go_num) rfl rfl hm hm2 (unhide HE) (by rw [unhide HWr]; exact World.drewN_drewN _ _ _)
      case measure => first | (simp [intOf]; done) | (simp [intOf]; omega)
    · have hae : a = b := by omega
      subst hae
      have d2 : decide ((a : Int) < (a : Int)) = false := by simp
      have HE : Hid (Rot.Begins col last p.data.toList a a) := by
        have := Rot.begins_none (unhide HWh) (unhide HB) (p.data.toList.take (k' + 1))
        rwa [List.take_append_drop] at this
      clear HB HX HXr HB0 hkk
      go_wp2_with fail
      go_ret2
      exact ⟨a, a, rfl, hab, hbn, unhide HE, j, unhide HWr⟩
end Go.Proofs.YthlincikgdblfaaGreat

namespace Go.Proofs.YthlincikgdblfaaGreat
open Go.RowKit
set_option linter.unusedVariables false

/-- Behind some steps back of at. -/
def AtRowV (col : List UInt8) (n last k0 : Nat) (w : World) (rv sv : Value) (wr : World) : Prop := ∃ k R j : Nat, k0 + k ≤ n ∧ rv = .int .i64 (R : Int) ∧ sv = .int .i64 (k : Int) ∧ R ≤ n ∧ Hid (R = Rot.walk col last (k0 + k)) ∧ Hid (wr = w.drewN j)
theorem AtRowV.mk {col : List UInt8} {n last k0 : Nat} {w wr : World} {rv sv : Value} (k R j : Nat) (h1 : k0 + k ≤ n) (h2 : rv = .int .i64 (R : Int)) (h3 : sv = .int .i64 (k : Int)) (h4 : R ≤ n) (h5 : R = Rot.walk col last (k0 + k)) (h6 : wr = w.drewN j) : AtRowV col n last k0 w rv sv wr := ⟨k, R, j, h1, h2, h3, h4, h5, h6⟩
set_option maxRecDepth 100000 in
set_option maxHeartbeats 1000000 in
/-- Where a row is at. -/
theorem at_row (x : Nat) (s : List UInt8) (n r last : Nat) (F : Nat → Nat) (M : List UInt8) (Q : List Nat) (i : Nat) (w : World) (h : Xv w x s n r last F M Q) (hF : firstOk F s n) (hW : Rot.Whole (Rot.colRead s 44 n) last) (hk : walkOk (Rot.colRead s 44 n) n r last M Q) (hQ : Q.length = Rot.os M (n + 1)) (hQb : ∀ q ∈ Q, q < 65536) (hn : n ≤ 250) (hr1 : 1 ≤ r) (hi : i ≤ n) :
    Calls Tryz.prog 67 #[.pointer (some ⟨x, 0, none⟩), .int .i64 i] w fun e w' => e = .returned (.int .i64 ((n - Rot.metAt (Rot.colRead s 44 n) last i : Nat) : Int)) ∧ ∃ j, w' = w.drewN j := by
  have hcl := Rot.colRead_len s 44 n
  have hll := hW.le
  rw [hcl] at hll
  have hQl : Q.length ≤ 300 := by rw [hQ]; have := Rot.os_le M (n + 1); omega
  obtain ⟨m1, m2⟩ := Rot.metAt_le hW (i := i) (by rw [hcl]; exact hi)
  rw [hcl] at m1
  have HX := hide h
  have HF := hide hF
  have HWh := hide hW
  have HK := hide hk
  have HQ := hide hQ
  have HQb := hide hQb
  clear h hF hW hk hQ hQb
  generalize hcol : Rot.colRead s 44 n = col at HWh HK hcl m1 m2 ⊢
  have HCol := hide hcol
  have HCL := hide hcl
  clear hcol hcl
  generalize Rot.metAt col last i = k0 at m1 m2 ⊢
  have HM2 := hide m2
  clear m2
  go_enter Tryz.func67, Tryz.ntmps67
  go_wp2_with fail
  go_loopw [1, 5] (fun rv sv wr => AtRowV col n last k0 w rv sv wr) (fun _ sv _ => n - k0 - (intOf sv).toNat)
  case atStart => exact AtRowV.mk 0 i 0 (by omega) rfl rfl hi (by rw [Nat.add_zero]; exact (unhide HM2).symm) rfl
  case round =>
    obtain ⟨k, R, j, hkn, rfl, rfl, hR, HR, HWr⟩ := hrel
    have HXr : Hid (Xv wr x s n r last F M Q) := by rw [unhide HWr]; exact (unhide HX).drewN j
    have HMK : Hid (markOk M Q r R (n - (k0 + k))) := by
      have hk := unhide HK
      by_cases e : k0 + k = n
      · have := hk.2.2
        rw [← e, ← unhide HR] at this
        rw [e, Nat.sub_self]
        exact this
      · have := (hk.2.1 (k0 + k) (by omega)).2
        rwa [← unhide HR] at this
    obtain ⟨p, a, D, hB, hD⟩ := (unhide HXr).marks
    have hPl := hD.1
    have hcb := bit_any x 299 p a M D (n + 1) _ R wr hB (by omega) (by omega)
    by_cases hbit : Rot.bitAt M 0 R = 1
    · have hco := fun j => ones_any x 299 p a M D (n + 1) R (wr.drewN j) (hB.drewN j) (by omega) (fun _ => hD) (by omega)
      have hlt : Rot.os M R < Q.length := by rw [unhide HQ]; exact os_bit_lt (by omega) hbit
      obtain ⟨v, hv, hU⟩ := (unhide HXr).places
      obtain ⟨g, cap, rfl, hcap, hcell⟩ := hU.slice (by omega)
      have cq := hcell _ hlt
      have hqv := (unhide HMK).2 hbit
      rw [List.getElem?_eq_getElem hlt] at hqv
      simp only [Option.getD_some] at hqv
      rw [hqv] at cq
      have hob := Rot.os_le M R
      rw [hbit] at hcb
      have hbe : ((1 : Nat) == 1) = true := rfl
      rw [hbe] at hcb
      obtain ⟨m, hm⟩ : ∃ m, n = k0 + k + m := ⟨n - (k0 + k), by omega⟩
      have em : n - (k0 + k) = m := by omega
      rw [em] at cq
      have HE : Hid (n - k0 = m + k) := hide (by omega)
      generalize Rot.os M R = o at hco hlt cq hob
      clear hB hD hcell hU hqv hPl HMK HXr HX HK HR hbit em
      go_wp2_with fail
      refine hcb.mono ?_
      rintro e w1 ⟨rfl, hw1⟩
      subst hw1
      clear hcb
      go_wp2_with fail
      go_quiet ((go_at_call 83; exact Calls.quiet_of (hco _)))
      go_wp2_with fail
      go_ret
      refine ⟨?_, j + nq, by rw [unhide HWr]; exact World.drewN_drewN _ _ _⟩
      rw [unhide HE]
      rfl
    · have hb0 : Rot.bitAt M 0 R = 0 := by have := Rot.bitAt_lt M 0 R; omega
      have hne : k0 + k ≠ n := by
        intro e
        have := (unhide HMK).1
        rw [e, Nat.sub_self, hb0] at this
        simp [Rot.isMarked] at this
      have hrl : R ≠ last := by rw [unhide HR]; exact (unhide HWh).on _ (by rw [unhide HCL]; omega)
      rw [hb0] at hcb
      have hbe : ((0 : Nat) == 1) = false := rfl
      rw [hbe] at hcb
      have hbk := rowsBack_any x s n r last F M Q R wr (unhide HXr) (unhide HF) hn hll hR hrl
      rw [unhide HCol] at hbk
      have hplt : Rot.placeOf last R < col.length := by rw [unhide HCL]; exact Rot.placeOf_lt hll hR hrl
      have hbn : Rot.back col last R ≤ n := by
        have := Rot.lower_bound hplt
        rw [unhide HCL] at this
        unfold Rot.back
        omega
      have HR2 : Hid (Rot.back col last R = Rot.walk col last (k0 + (k + 1))) := by rw [unhide HR]; exact rfl
      generalize Rot.back col last R = R2 at hbk hbn HR2
      generalize (Rot.at' col (Rot.placeOf last R)).toNat = cc at hbk
      clear hB hD hPl HMK HXr HX HK HR hbit hb0 hplt hrl
      go_wp2_with fail
      refine hcb.mono ?_
      rintro e w1 ⟨rfl, hw1⟩
      subst hw1
      clear hcb
      go_wp2_with fail
      refine hbk.mono ?_
      rintro e w2 ⟨rfl, j2, hw2⟩
      have HW2 := hide hw2
      clear hbk hw2
      go_wp2_with fail
      go_roundw
      case rel => exact AtRowV.mk (k + 1) R2 (j + j2) (by omega) rfl (by go_num) hbn (unhide HR2) (by rw [unhide HW2, unhide HWr]; exact World.drewN_drewN _ _ _)
      case measure => simp [intOf]; omega
end Go.Proofs.YthlincikgdblfaaGreat
