import Derived.Test.YthlincikgdblfaaGreatV32
import Derived.Test.YthlincikgdblfaaGreatV30
import Derived.Test.YthlincikgdblfaaGreatV08
import Derived.Test.YthlincikgdblfaaGreatV09
namespace Go.Proofs.YthlincikgdblfaaGreat
open Go.RowKit
set_option linter.unusedVariables false

/-- The bytes of a piece that are laid behind k steps: those from place n - k on. -/
def laidP (t : List UInt8) (a b k : Nat) : List UInt8 := (List.range (b - a)).map fun i => if t.length - k ≤ a + i then (t[a + i]?).getD 0 else 0
theorem laidP_len (t : List UInt8) (a b k : Nat) : (laidP t a b k).length = b - a := by simp [laidP]
theorem laidP_zero (t : List UInt8) (a b : Nat) (hb : b ≤ t.length) : by8 (laidP t a b 0) = List.replicate (b - a) (.int .u8 0) := by
  apply List.ext_getElem
  · simp [by8, laidP]
  · intro i h1 h2
    have hi : i < b - a := by simpa using h2
    simp only [by8, laidP, List.getElem_map, List.getElem_range, List.getElem_replicate]
    rw [if_neg (by omega)]
    rfl
theorem laidP_set (t : List UInt8) (a b k A : Nat) (hk : A + k + 1 = t.length) (ha : a ≤ A) (hb : A < b) : (by8 (laidP t a b k)).set (A - a) (.int .u8 (((t[A]?).getD 0).toNat : Int)) = by8 (laidP t a b (k + 1)) := by
  apply List.ext_getElem
  · simp [by8, laidP]
  · intro i h1 h2
    have hi : i < b - a := by simpa [by8, laidP] using h2
    rw [List.getElem_set]
    simp only [by8, laidP, List.getElem_map, List.getElem_range]
    by_cases e : A - a = i
    · rw [if_pos e, if_pos (by omega), show a + i = A by omega]
    · rw [if_neg e]
      by_cases h3 : t.length - k ≤ a + i
      · rw [if_pos h3, if_pos (by omega)]
      · rw [if_neg h3, if_neg (by omega)]
theorem laidP_skip (t : List UInt8) (a b k A : Nat) (hk : A + k + 1 = t.length) (hb : b ≤ A) : laidP t a b k = laidP t a b (k + 1) := by
  unfold laidP
  apply List.map_congr_left
  intro i hi
  have hi := List.mem_range.1 hi
  rw [if_neg (by omega), if_neg (by omega)]
theorem laidP_all (t : List UInt8) (a b k : Nat) (hb : b ≤ t.length) (hk : t.length - k ≤ a) : laidP t a b k = (t.drop a).take (b - a) := by
  apply List.ext_getElem
  · simp [laidP]; omega
  · intro i h1 h2
    have hi : i < b - a := by simpa [laidP] using h1
    simp only [laidP, List.getElem_map, List.getElem_range, List.getElem_take, List.getElem_drop]
    rw [if_pos (by omega), List.getElem?_eq_getElem (by omega)]
    rfl
theorem by8_len (l : List UInt8) : (by8 l).length = l.length := by simp [by8]
/-- Behind k steps back of Piece. -/
def PieV (col : List UInt8) (last n a b : Nat) (t : List UInt8) (w : World) (rv av : Value) (wr : World) : Prop := ∃ k R : Nat, k + a ≤ n ∧ av = .int .i64 ((n : Int) - 1 - (k : Int)) ∧ rv = .int .i64 (R : Int) ∧ R ≤ n ∧ Hid (R = Rot.walk col last k) ∧ wr.ownsRow w.heap.size 5 1 (.slice (some ⟨w.heap.size, 0, none⟩) (b - a) (b - a)) (b - a) (by8 (laidP t a b k)) ∧ w.grownBy wr none
theorem PieV.mk {col : List UInt8} {last n a b : Nat} {t : List UInt8} {w wr : World} {rv av : Value} (k R : Nat) (h1 : k + a ≤ n) (h2 : av = .int .i64 ((n : Int) - 1 - (k : Int))) (h3 : rv = .int .i64 (R : Int)) (h4 : R ≤ n) (h5 : R = Rot.walk col last k) (h6 : wr.ownsRow w.heap.size 5 1 (.slice (some ⟨w.heap.size, 0, none⟩) (b - a) (b - a)) (b - a) (by8 (laidP t a b k))) (h7 : w.grownBy wr none) : PieV col last n a b t w rv av wr := ⟨k, R, h1, h2, h3, h4, h5, h6, h7⟩
set_option maxRecDepth 100000 in
set_option maxHeartbeats 1000000 in
theorem piece_any (x : Nat) (s : List UInt8) (n r last : Nat) (F : Nat → Nat) (M : List UInt8) (Q : List Nat) (t : List UInt8) (a b : Nat) (w : World) (h : ∀ w', w.grownBy w' none → Xv w' x s n r last F M Q) (hF : firstOk F s n) (hW : Rot.Whole (Rot.colRead s 44 n) last) (ht : t = Rot.spell (Rot.colRead s 44 n) last n) (hn : n ≤ 250) (hab : a ≤ b) (hb : b ≤ n) :
    Calls Tryz.prog 32 #[.pointer (some ⟨x, 0, none⟩), .int .i64 a, .int .i64 b] w fun e w' => e = .returned (.string (Sb ((t.drop a).take (b - a)))) ∧ w.grownBy w' none := by
  obtain ⟨i0, hi, hz0, hz1, hz2⟩ := info_parts info8
  have hcl := Rot.colRead_len s 44 n
  have htl : t.length = n := by rw [ht]; exact Rot.spell_len _ _ _
  have HT := hide ht
  have HF := hide hF
  have HX := hide h
  have HWh := hide hW
  have hll := hW.le
  rw [hcl] at hll
  have hba : ((b : Int) - (a : Int)) = ((b - a : Nat) : Int) := by omega
  clear hF h hW ht
  generalize hcol : Rot.colRead s 44 n = col at HT HWh hcl
  have HCol := hide hcol
  have HCL := hide hcl
  clear hcol hcl
  generalize hd0 : b - a = d at hba ⊢
  go_enter Tryz.func32, Tryz.ntmps32
  go_wp2_with (at_make; refine wpList_make_full _ rfl _ _ 45 rfl w.heap.size 5 i0 (.int .u8 0) 1 Tryz.underlying45 hi hz0 hz1 .i64 .i64 _ _ d rfl rfl ?l1 ?l2 ?m1 ?m2 ?m3 ?_)
  case l1 => omega
  case l2 => omega
  case m1 => rw [hz2]; omega
  case m2 => unfold maxLen; omega
  case m3 => exact Nat.le_refl _
  intro w0 O0 G0
  have clen := ((unhide HX) w0 G0).len
  have P0 : PieV col last n a b t w (.int .i64 0) (.int .i64 ((n : Int) - 1 - (0 : Nat))) w0 := by
    refine PieV.mk 0 0 (by omega) rfl rfl (by omega) rfl ?_ G0
    rw [laidP_zero t a b (by omega), hd0]
    rw [toList_madeCells_one] at O0
    simpa using O0
  clear O0 G0
  go_wp2_with fail
  go_loopw [8, 9] (fun rv av wr => PieV col last n a b t w rv av wr) (fun _ av _ => (intOf av + 1).toNat)
  case atStart => simpa using P0
  case round =>
    obtain ⟨k, R, hk, rfl, rfl, hR, HR, O, G⟩ := hrel
    clear P0
    have HXr := hide (unhide HX wr G)
    by_cases hlt : k + a < n
    · obtain ⟨A, hA⟩ : ∃ A, A + k + 1 = n := ⟨n - 1 - k, by omega⟩
      have hav : (n : Int) - 1 - (k : Int) = (A : Int) := by omega
      rw [hav]
      have hge : decide ((a : Int) ≤ (A : Int)) = true := by simp; omega
      have hne : R ≠ last := by rw [unhide HR]; exact (unhide HWh).on k (by rw [unhide HCL]; omega)
      have hcb := rowsBack_any x s n r last F M Q R wr (unhide HXr) (unhide HF) hn hll hR hne
      rw [unhide HCol] at hcb
      have hplt : Rot.placeOf last R < col.length := by rw [unhide HCL]; exact Rot.placeOf_lt hll hR hne
      have hbk : Rot.back col last R ≤ n := by
        have := Rot.lower_bound hplt
        rw [unhide HCL] at this
        unfold Rot.back
        omega
      have HR2 : Hid (Rot.back col last R = Rot.walk col last (k + 1)) := by rw [unhide HR]; exact rfl
      have hby : Rot.at' col (Rot.placeOf last R) = (t[A]?).getD 0 := by
        have := Rot.spell_at (col := col) (last := last) (k := k) (by rw [unhide HCL]; omega)
        rw [unhide HCL, ← unhide HT, ← unhide HR, show n - k - 1 = A by omega] at this
        exact this.symm
      rw [hby] at hcb
      generalize Rot.back col last R = R2 at hcb hbk HR2
      have HG := hide G
      have HO := hide O
      have hc8 : ((t[A]?).getD 0).toNat < 256 := ((t[A]?).getD 0).toNat_lt
      have HSET := fun (hAb : A < b) => laidP_set t a b k A (by omega) (by omega) hAb
      generalize (t[A]?).getD 0 = cB at hcb hc8 HSET
      clear hplt hby hne HR HX G O hav
      by_cases hAb : A < b
      · have hlb : decide ((A : Int) < (b : Int)) = true := by simp; omega
        obtain ⟨q, hq⟩ : ∃ q, A = a + q := ⟨A - a, by omega⟩
        have hsub : (A : Int) - (a : Int) = (q : Int) := by omega
        have hqd : q < d := by omega
        have HSET := hide (HSET hAb)
        rw [show A - a = q by omega] at HSET
        clear hq
        go_wp2_with fail
        refine hcb.mono ?_
        rintro e w2 ⟨rfl, j, hw2⟩
        have O2 : w2.ownsRow w.heap.size 5 1 (.slice (some ⟨w.heap.size, 0, none⟩) d d) d (by8 (laidP t a b k)) := by rw [hw2, ← hd0]; exact unhide HO
        have HG2 : Hid (w.grownBy w2 none) := by rw [hw2]; exact grown_drewN (unhide HG) j
        have hcell := World.ownsRow.cells O2 (g := w.heap.size) rfl q (.int .u8 (((laidP t a b k)[q]'(by rw [laidP_len]; omega)).toNat : Int)) (by unfold by8; rw [List.getElem?_map, List.getElem?_eq_getElem (by rw [laidP_len]; omega)]; rfl)
        rw [addr_add] at hcell
        have hf := World.ownsRow.frozenAt O2 q
        have HS := hide (World.ownsRow.stored O2 q (.int .u8 (cB.toNat : Int)))
        generalize (((laidP t a b k)[q]'(by rw [laidP_len]; omega)).toNat : Int) = zz at hcell
        clear hcb hw2 O2 HG HO
        go_wp2_with fail
        go_roundw
        case rel =>
          have hs := unhide HS
          refine PieV.mk (k + 1) R2 (by omega) (by go_num) rfl hbk (unhide HR2) ?_ (grown_trans (unhide HG2) hs.2 (Or.inr ⟨_, rfl, Nat.le_refl _⟩))
          rw [← unhide HSET, hd0]
          exact hs.1
        case measure => first | (simp [intOf]; done) | (simp [intOf]; omega)
      · clear HSET
        have hlb : decide ((A : Int) < (b : Int)) = false := by simp; omega
        have HSK := hide (laidP_skip t a b k A (by omega) (by omega))
        go_wp2_with fail
        refine hcb.mono ?_
        rintro e w2 ⟨rfl, j, hw2⟩
        have HW2 := hide hw2
        clear hcb hw2
        go_wp2_with fail
        go_roundw
        case rel =>
          refine PieV.mk (k + 1) R2 (by omega) (by go_num) rfl hbk (unhide HR2) ?_ (by rw [unhide HW2]; exact grown_drewN (unhide HG) j)
          rw [unhide HW2, ← unhide HSK]
          exact unhide HO
        case measure => first | (simp [intOf]; done) | (simp [intOf]; omega)
    · have hge : decide ((a : Int) ≤ (n : Int) - 1 - (k : Int)) = false := by simp; omega
      have HG := hide G
      rw [laidP_all t a b k (by omega) (by omega)] at O
      have hl : ((t.drop a).take (b - a)).length = d := by simp; omega
      have hB : Bs wr w.heap.size (.slice (some ⟨w.heap.size, 0, none⟩) ((t.drop a).take (b - a)).length d) ((t.drop a).take (b - a)) := by
        unfold Bs
        rw [hl]
        rw [hd0] at O ⊢
        exact O
      have hcv := conv_str hB
      rw [hl, hd0] at hcv
      clear O G hB HR HX HXr
      go_wp2_with fail
      go_ret
      exact ⟨rfl, unhide HG⟩
end Go.Proofs.YthlincikgdblfaaGreat

namespace Go.Proofs.YthlincikgdblfaaGreat
open Go.RowKit
set_option linter.unusedVariables false

/-- What an index knows of its text. -/
theorem file_tells2 {s t : List UInt8} {r : Nat} (h : Rot.IsFile s t r) : firstOk (Rot.numAt (dd s 2)) s t.length ∧ Rot.Whole (Rot.colRead s 44 t.length) (lastIn s) ∧ t = Rot.spell (Rot.colRead s 44 t.length) (lastIn s) t.length ∧ walkOk (Rot.colRead s 44 t.length) t.length r (lastIn s) (mk s) (Rot.nums (dd s 4) (Rot.os (mk s) (t.length + 1))) ∧ t.length ≤ 250 := by
  obtain ⟨hg, hn, hr, hsp⟩ := file_good h
  rw [← hn, ← hr]
  refine ⟨hg.first, ?_, hsp.symm, hg.walk, (headOk.n hg.head).1⟩
  have hw := hg.walk
  exact Rot.whole_of (by rw [Rot.colRead_len]; exact hw.1) (fun k hk => (hw.2.1 k (by rwa [Rot.colRead_len] at hk)).1)
theorem extract_nil (a b : Int) (w : World) : Calls Tryz.prog 20 #[.pointer none, .int .i64 a, .int .i64 b] w fun e w' => e = .returned (.tuple #[.string ⟨#[]⟩, .int .i64 1]) ∧ w' = w := by
  have hc := isNone_nil w
  go_enter Tryz.func20, Tryz.ntmps20
  go_wp2_with fail
  refine hc.mono ?_
  rintro e w2 ⟨rfl, hw2⟩
  subst hw2
  clear hc
  go_wp2_with fail
  go_ret2
  exact ⟨rfl, rfl⟩
theorem extract_no (B p : Nat) (s t : List UInt8) (r : Nat) (a b : Int) (w : World) (h : Idx B w p s t r) (hab : ¬ (0 ≤ a ∧ a ≤ b ∧ b ≤ t.length)) :
    Calls Tryz.prog 20 #[.pointer (some ⟨p, 0, none⟩), .int .i64 a, .int .i64 b] w fun e w' => e = .returned (.tuple #[.string ⟨#[]⟩, .int .i64 1]) ∧ w' = w := by
  obtain ⟨hf, _, x, _, hx⟩ := h
  obtain ⟨c0, X⟩ := hx w (Stay.refl _ _)
  have c1 := X.len
  have hc := isNone_some p x w c0
  clear hx X
  by_cases h1 : a < 0
  · have d1 : decide (a < 0) = true := by simpa using h1
    go_enter Tryz.func20, Tryz.ntmps20
    go_wp2_with fail
    refine hc.mono ?_
    rintro e w2 ⟨rfl, hw2⟩
    subst hw2
    clear hc
    go_wp2_with fail
    go_ret2
    exact ⟨rfl, rfl⟩
  · have d1 : decide (a < 0) = false := by simpa using h1
    by_cases h2 : b < a
    · have d2 : decide (b < a) = true := by simpa using h2
      go_enter Tryz.func20, Tryz.ntmps20
      go_wp2_with fail
      refine hc.mono ?_
      rintro e w2 ⟨rfl, hw2⟩
      subst hw2
      clear hc
      go_wp2_with fail
      go_ret2
      exact ⟨rfl, rfl⟩
    · have d2 : decide (b < a) = false := by simpa using h2
      have d3 : decide ((t.length : Int) < b) = true := by simp; omega
      go_enter Tryz.func20, Tryz.ntmps20
      go_wp2_with fail
      refine hc.mono ?_
      rintro e w2 ⟨rfl, hw2⟩
      subst hw2
      clear hc
      go_wp2_with fail
      go_ret2
      exact ⟨rfl, rfl⟩
theorem extract_yes (B p : Nat) (s t : List UInt8) (r a b : Nat) (w : World) (h : Idx B w p s t r) (hab : a ≤ b) (hb : b ≤ t.length) :
    Calls Tryz.prog 20 #[.pointer (some ⟨p, 0, none⟩), .int .i64 a, .int .i64 b] w fun e w' => e = .returned (.tuple #[.string (Sb ((t.drop a).take (b - a))), .int .i64 0]) ∧ w.grownBy w' none := by
  obtain ⟨hf, _, x, _, hx⟩ := h
  obtain ⟨h1, h2, h3, _, h5⟩ := file_tells2 hf
  obtain ⟨c0, X⟩ := hx w (Stay.refl _ _)
  have c1 := X.len
  have hc := isNone_some p x w c0
  have hp := piece_any x s t.length r (lastIn s) _ _ _ t a b w (fun w' g => (hx w' (Stay.of g (fun _ e => by simp at e))).2) h1 h2 h3 h5 hab hb
  have d1 : decide ((a : Int) < 0) = false := by simp
  have d2 : decide ((b : Int) < (a : Int)) = false := by simp; omega
  have d3 : decide ((t.length : Int) < (b : Int)) = false := by simp; omega
  clear hx X h1 h2 h3
  go_enter Tryz.func20, Tryz.ntmps20
  go_wp2_with fail
  refine hc.mono ?_
  rintro e w2 ⟨rfl, hw2⟩
  subst hw2
  clear hc
  go_wp2_with fail
  refine hp.mono ?_
  rintro e w3 ⟨rfl, g⟩
  have HG := hide g
  clear hp g
  go_wp2_with fail
  go_ret2
  exact ⟨rfl, unhide HG⟩
end Go.Proofs.YthlincikgdblfaaGreat

namespace Go.Proofs.YthlincikgdblfaaGreat
set_option linter.unusedVariables false
open Go.RowKit
theorem Ints.kept {w w' : World} {v : Value} {zs : List Int} (h : Ints w v zs) (g : w.grownBy w' none) : Ints w' v zs := by
  obtain ⟨h1, h2, a, c, h3, h4⟩ := h
  refine ⟨h1, h2, a, c, h3, ?_⟩
  rcases h4 with h4 | ⟨b, off, h5, h6⟩
  · exact Or.inl h4
  · exact Or.inr ⟨b, off, h5, fun i hi => cell_grown (h6 i hi) g⟩
/-- What the document says of a source's bytes, read by sizes. -/
inductive Loaded (s : ByteArray) (sz : List Int) : Option (List UInt8 × Nat) → Nat → Nat → Prop
  | large (h : 4000 < s.size) : Loaded s sz none 0 2
  | broken (h : s.size ≤ 4000) (k : Nat) (r : Rot.Reads s.size sz 0 0 0 false k) : Loaded s sz none k 3
  | refused (h : s.size ≤ 4000) (k : Nat) (r : Rot.Reads s.size sz 0 0 0 true k) (n : ¬ ∃ t r, Rot.IsFile s.data.toList t r) : Loaded s sz none k 4
  | taken (h : s.size ≤ 4000) (k : Nat) (r : Rot.Reads s.size sz 0 0 0 true k) (t : List UInt8) (q : Nat) (f : Rot.IsFile s.data.toList t q) : Loaded s sz (some (t, q)) k 0
theorem IsFile_same {b t u : List UInt8} {r q : Nat} (h : Rot.IsFile b t r) (h' : Rot.IsFile b u q) : t = u ∧ r = q := by
  obtain ⟨h1, h2, a, h3, e⟩ := h
  obtain ⟨g1, g2, b', g3, e'⟩ := h'
  exact Rot.file_inj h3 g3 h1 g1 (by have := Rot.rate_le h2; omega) (by have := Rot.rate_le g2; omega) (e.symm.trans e')
theorem Loaded.same {s : ByteArray} {sz : List Int} {x x' : Option (List UInt8 × Nat)} {k k' e e' : Nat} (h : Loaded s sz x k e) (h' : Loaded s sz x' k' e') : x = x' ∧ k = k' ∧ e = e' := by
  cases h with
  | large h =>
    cases h' with
    | large => exact ⟨rfl, rfl, rfl⟩
    | broken h2 => omega
    | refused h2 => omega
    | taken h2 => omega
  | broken h _ r =>
    cases h' with
    | large h2 => omega
    | broken h2 _ r2 => obtain ⟨_, rfl⟩ := r.same r2; exact ⟨rfl, rfl, rfl⟩
    | refused h2 _ r2 => have := (r.same r2).1; cases this
    | taken h2 _ r2 => have := (r.same r2).1; cases this
  | refused h _ r n =>
    cases h' with
    | large h2 => omega
    | broken h2 _ r2 => have := (r.same r2).1; cases this
    | refused h2 _ r2 => obtain ⟨_, rfl⟩ := r.same r2; exact ⟨rfl, rfl, rfl⟩
    | taken h2 _ r2 t q f => exact absurd ⟨t, q, f⟩ n
  | taken h _ r t q f =>
    cases h' with
    | large h2 => omega
    | broken h2 _ r2 => have := (r.same r2).1; cases this
    | refused h2 _ r2 n => exact absurd ⟨t, q, f⟩ n
    | taken h2 _ r2 t2 q2 f2 =>
      obtain ⟨_, rfl⟩ := r.same r2
      obtain ⟨rfl, rfl⟩ := IsFile_same f f2
      exact ⟨rfl, rfl, rfl⟩
/-- An index of the reference's. -/
def RIdx (w : World) (B : Nat) (v : Value) (x : Option (List UInt8 × Nat)) : Prop := match x with
  | none => v = .pointer none
  | some (t, r) => ∃ g, v = .pointer (some ⟨g, 0, none⟩) ∧ B ≤ g ∧ w.cell? ⟨g, 0, none⟩ = some (.string (Sb t)) ∧ w.cell? ⟨g, 1, none⟩ = some (.int .i64 (r : Int))

set_option maxRecDepth 100000 in
set_option maxHeartbeats 1000000 in
theorem rload_any (s : ByteArray) (v : Value) (sz : List Int) (w : World) (hs : s.size ≤ maxLen) (hI : Ints w v sz) :
    Calls Tryz.prog 74 #[.string s, v] w fun e w' => ∃ x k n p, e = .returned (.tuple #[p, .int .i64 (k : Nat), .int .i64 (n : Nat)]) ∧ Loaded s sz x k n ∧ RIdx w' w.heap.size p x ∧ w.grownBy w' none := by
  by_cases h4 : s.size ≤ 4000
  · go_enter Tryz.func74, Tryz.ntmps74
    go_wp2_with fail
    refine (rread_any s v sz _ h4 hI).mono ?_
    rintro e w1 ⟨⟨k, rfl, hR⟩ | ⟨k, rfl, hR⟩, hw1⟩
    · subst hw1
      have HR := hide hR
      clear hR
      go_wp2_with fail
      refine (guess_any s _ h4).mono ?_
      rintro e w2 ⟨⟨t, r, rfl, hF⟩ | ⟨x, r, rfl, hF⟩, g2⟩
      · have HF := hide hF
        have HG := hide g2
        have hz := g2.size
        clear hF g2
        go_wp2_with fail
        go_ret3
        refine ⟨some (t, r), k, 0, _, rfl, Loaded.taken h4 k (unhide HR) t r (unhide HF), ?_, grown_alloc (unhide HG) _⟩
        exact ⟨w2.heap.size, rfl, hz, cells_new8 w2 _ _ 0 (by simp), cells_new8 w2 _ _ 1 (by simp)⟩
      · have HF := hide hF
        have HG := hide g2
        clear hF g2
        go_wp2_with fail
        go_ret3
        exact ⟨none, k, 4, _, rfl, Loaded.refused h4 k (unhide HR) (unhide HF), rfl, unhide HG⟩
    · subst hw1
      have HR := hide hR
      clear hR
      go_wp2_with fail
      go_ret3
      exact ⟨none, k, 3, _, rfl, Loaded.broken h4 k (unhide HR), rfl, World.grownBy.refl _ _⟩
  · go_enter Tryz.func74, Tryz.ntmps74
    go_wp2_with fail
    have hrd : Calls Tryz.prog 108 #[.string s, v] w fun e w' => e = .returned (.tuple #[.string ⟨#[]⟩, .int .i64 0, .int .i64 2]) ∧ w' = w := by
      have hd : decide (4000 < (s.size : Int)) = true := by simp; omega
      unfold maxLen at hs
      go_enter Tryz.func108, Tryz.ntmps108
      go_wp2_with fail
      go_ret3
      exact ⟨rfl, rfl⟩
    refine hrd.mono ?_
    rintro e w1 ⟨rfl, hw1⟩
    subst hw1
    clear hrd
    go_wp2_with fail
    go_ret3
    exact ⟨none, 0, 2, _, rfl, Loaded.large (by omega), rfl, World.grownBy.refl _ _⟩

/-- Extract, of the reference's. -/
theorem rextract_no (t : List UInt8) (g : Nat) (a b : Int) (w : World) (hc : w.cell? ⟨g, 0, none⟩ = some (.string (Sb t))) (ht : t.length ≤ 250) (h : ¬ (0 ≤ a ∧ a ≤ b ∧ b ≤ t.length)) :
    Calls Tryz.prog 42 #[.pointer (some ⟨g, 0, none⟩), .int .i64 a, .int .i64 b] w fun e w' => e = .returned (.tuple #[.string ⟨#[]⟩, .int .i64 1]) ∧ w' = w := by
  have hsz := Sb_size t
  by_cases h1 : a < 0
  · have d1 : decide (a < 0) = true := by simpa using h1
    go_enter Tryz.func42, Tryz.ntmps42
    go_wp2_with fail
    go_ret2
    exact ⟨rfl, rfl⟩
  · have d1 : decide (a < 0) = false := by simpa using h1
    by_cases h2 : b < a
    · have d2 : decide (b < a) = true := by simpa using h2
      go_enter Tryz.func42, Tryz.ntmps42
      go_wp2_with fail
      go_ret2
      exact ⟨rfl, rfl⟩
    · have d2 : decide (b < a) = false := by simpa using h2
      have d3 : decide ((t.length : Int) < b) = true := by simp; omega
      go_enter Tryz.func42, Tryz.ntmps42
      go_wp2_with fail
      go_ret2
      exact ⟨rfl, rfl⟩
theorem rextract_yes (t : List UInt8) (g a b : Nat) (w : World) (hc : w.cell? ⟨g, 0, none⟩ = some (.string (Sb t))) (ht : t.length ≤ 250) (h1 : a ≤ b) (h2 : b ≤ t.length) :
    Calls Tryz.prog 42 #[.pointer (some ⟨g, 0, none⟩), .int .i64 a, .int .i64 b] w fun e w' => e = .returned (.tuple #[.string ((Sb t).extract a b), .int .i64 0]) ∧ ∃ m, w' = w.drewN m := by
  have hsz := Sb_size t
  have d1 : decide ((a : Int) < 0) = false := by simp
  have d2 : decide ((b : Int) < (a : Int)) = false := by simp; omega
  have d3 : decide ((t.length : Int) < (b : Int)) = false := by simp; omega
  go_enter Tryz.func42, Tryz.ntmps42
  go_wp2_with fail
  go_ret2
  exact ⟨rfl, 0, rfl⟩
end Go.Proofs.YthlincikgdblfaaGreat

namespace Go.Proofs.YthlincikgdblfaaGreat
set_option linter.unusedVariables false
open Go.RowKit

theorem Ints.below {w w' : World} {v : Value} {zs : List Int} {B : Nat} (h : Ints w v zs) (H : Below B w w') (hb : ∀ a n c, v = .slice (some a) n c → a.block < B ∨ zs = []) : Ints w' v zs := by
  obtain ⟨h1, h2, a, c, h3, h4⟩ := h
  refine ⟨h1, h2, a, c, h3, ?_⟩
  rcases h4 with h4 | ⟨b, off, h5, h6⟩
  · exact Or.inl h4
  · refine Or.inr ⟨b, off, h5, fun i hi => ?_⟩
    have hlt : b < B := by
      subst h5
      rcases hb _ _ _ h3 with h | h
      · exact h
      · rw [h] at hi
        simp at hi
    rw [H.cell (p := ⟨b, off + i, none⟩) hlt]
    exact h6 i hi
theorem ints_nil (w : World) : Ints w (.slice none 0 0) [] := ⟨by simp, by simp, none, 0, rfl, Or.inl rfl⟩
theorem ints_of_is {w : World} {B : Nat} {v : Value} {l : List Nat} (h : Is w B v l) (hb : ∀ x ∈ l, x ≤ 1000) (hl : l.length ≤ 9223372036854775807) : Ints w v (l.map fun (n : Nat) => (n : Int)) := by
  refine ⟨?_, by simpa using hl, ?_⟩
  · intro z hz
    obtain ⟨x, hx, rfl⟩ := List.mem_map.1 hz
    have := hb x hx
    omega
  rcases h.form with ⟨rfl, rfl⟩ | ⟨g, cap, rfl, _, _, _⟩
  · exact ⟨none, 0, rfl, Or.inl rfl⟩
  · refine ⟨some ⟨g, 0, none⟩, cap, by simp, Or.inr ⟨g, 0, rfl, fun i hi => ?_⟩⟩
    have hi2 : i < l.length := by simpa using hi
    rw [Nat.zero_add, Is.cell h i hi2]
    simp
theorem is_low {w : World} {B : Nat} {v : Value} {l : List Nat} (h : Is w B v l) : ∀ a n c, v = .slice (some a) n c → a.block < w.heap.size := by
  intro a n c e
  rcases h.form with ⟨rfl, _⟩ | ⟨g, cap, rfl, _, h2, _⟩
  · cases e
  · cases e
    exact h2
theorem is_shape {w : World} {B : Nat} {v : Value} {l : List Nat} (h : Is w B v l) : ∃ a n c, v = .slice a n c := by
  rcases h.form with ⟨rfl, _⟩ | ⟨g, cap, rfl, _⟩
  · exact ⟨_, _, _, rfl⟩
  · exact ⟨_, _, _, rfl⟩
/-- A source, just made. -/
theorem src_new (w : World) (S : ByteArray) (v : Value) (sz : List Int) (h : Ints w v sz) (hlt : ∀ a n c, v = .slice (some a) n c → a.block < w.heap.size) : Src (w.alloc (.cells #[.string S, v, .int .i64 0] 37)) w.heap.size S v sz 0 := by
  refine ⟨?_, ?_, ?_, ?_, ?_, fun a n c e => by have := hlt a n c e; omega, h.kept (World.grownBy_alloc w _ none)⟩
  all_goals go_simp
theorem slow_bound (zs : List Int) : ∀ x ∈ slowOf zs, x ≤ 1000 := by
  intro x hx
  obtain ⟨z, _, rfl⟩ := List.mem_map.1 hx
  have := pick_lt z 70 (by decide)
  omega
theorem slow_pos (zs : List Int) : ∀ z ∈ (slowOf zs).map (fun (n : Nat) => (n : Int)), 1 ≤ z := by
  intro z hz
  obtain ⟨x, hx, rfl⟩ := List.mem_map.1 hz
  obtain ⟨y, _, rfl⟩ := List.mem_map.1 hx
  omega
/-- LOAD, of a file whose reads give something each. -/
theorem load_file (b : Nat) (S : ByteArray) (vs : Value) (sz : List Int) (t : List UInt8) (r : Nat) (w : World) (h : Src w b S vs sz 0) (hlow : ∀ a n c, vs = .slice (some a) n c → a.block < w.heap.size) (hf : Rot.IsFile S.data.toList t r) (hp : ∀ z ∈ sz, 1 ≤ z) :
    Calls Tryz.prog 15 #[.pointer (some ⟨b, 0, none⟩)] w fun e w' => ∃ p k, e = .returned (.tuple #[.pointer (some ⟨p, 0, none⟩), .int .i64 0]) ∧ Src w' b S vs sz k ∧ w.grownBy w' (some b) ∧ Idx w.heap.size w' p S.data.toList t r := by
  have hs : S.size ≤ 4000 := by
    have := hf.size.2.2
    have e : S.data.toList.length = S.size := by simp
    omega
  refine (load_is b S vs sz w h hs hlow).mono ?_
  rintro e w' ⟨k, h1, h2, (⟨h3, h4⟩ | ⟨h3, h4, h5⟩ | ⟨p, t', r', h3, h4, h5⟩)⟩
  · have := Rot.reads_pos hp h4
    cases this
  · exact absurd ⟨t, r, hf⟩ h5
  · obtain ⟨rfl, rfl⟩ := IsFile_same hf h5.1
    exact ⟨p, k, h3, h1, h2, h5⟩
/-- LOAD, of bytes whose reads give something each. -/
theorem load_bytes (b : Nat) (S : ByteArray) (vs : Value) (sz : List Int) (w : World) (h : Src w b S vs sz 0) (hs : S.size ≤ 4000) (hlow : ∀ a n c, vs = .slice (some a) n c → a.block < w.heap.size) (hp : ∀ z ∈ sz, 1 ≤ z) :
    Calls Tryz.prog 15 #[.pointer (some ⟨b, 0, none⟩)] w fun e w' => w.grownBy w' (some b) ∧ ((e = .returned (.tuple #[.pointer none, .int .i64 4]) ∧ ¬ ∃ t r, Rot.IsFile S.data.toList t r) ∨ (∃ p t r, e = .returned (.tuple #[.pointer (some ⟨p, 0, none⟩), .int .i64 0]) ∧ Idx w.heap.size w' p S.data.toList t r)) := by
  refine (load_is b S vs sz w h hs hlow).mono ?_
  rintro e w' ⟨k, h1, h2, (⟨h3, h4⟩ | ⟨h3, h4, h5⟩ | ⟨p, t', r', h3, h4, h5⟩)⟩
  · have := Rot.reads_pos hp h4
    cases this
  · exact ⟨h2, Or.inl ⟨h3, h5⟩⟩
  · exact ⟨h2, Or.inr ⟨p, t', r', h3, h5⟩⟩
/-- The file that was built is a file. -/
theorem built_file {s : ByteArray} {r : Nat} {rows : List Nat} (hs : s.size ≤ 250) (h : isRate (r : Int) = true) (hR : Rot.IsRows s.data.toList rows) : Rot.IsFile (⟨(Rot.fileOf s.data.toList rows r).toArray⟩ : ByteArray).data.toList s.data.toList r := ⟨by simpa using hs, h, rows, hR, by simp⟩
theorem len_idx (B p : Nat) (s t : List UInt8) (r : Nat) (w : World) (h : Idx B w p s t r) : Calls Tryz.prog 17 #[.pointer (some ⟨p, 0, none⟩)] w fun e w' => e = .returned (.int .i64 (t.length : Int)) ∧ w' = w := by
  obtain ⟨_, _, x, _, hx⟩ := h
  obtain ⟨c0, X⟩ := hx w (Stay.refl _ _)
  exact len_some p x t.length w c0 X.len
theorem rate_idx (B p : Nat) (s t : List UInt8) (r : Nat) (w : World) (h : Idx B w p s t r) : Calls Tryz.prog 18 #[.pointer (some ⟨p, 0, none⟩)] w fun e w' => e = .returned (.int .i64 (r : Int)) ∧ w' = w := by
  obtain ⟨_, _, x, _, hx⟩ := h
  obtain ⟨c0, X⟩ := hx w (Stay.refl _ _)
  exact rate_some p x r w c0 X.rate
theorem sb_piece (t : ByteArray) (a b : Nat) : Sb ((t.data.toList.drop a).take (b - a)) = t.extract a b := by
  apply ByteArray.ext
  rw [ByteArray.data_extract]
  apply Array.ext'
  simp [Sb]
theorem sb_whole (t : ByteArray) : Sb ((t.data.toList.drop 0).take (t.size - 0)) = t := by
  rw [sb_piece]
  simp
theorem Idx.grown {B : Nat} {w w' : World} {p : Nat} {s t : List UInt8} {r : Nat} (h : Idx B w p s t r) (G : w.grownBy w' none) : Idx B w' p s t r := h.stay (Stay.of G (fun _ e => by simp at e))
theorem below_on {B : Nat} {a w w' : World} (h : Below B a w) (G : w.grownBy w' none) (hB : B ≤ a.heap.size) : Below B a w' := h.grown G (Nat.le_trans hB h.size) (fun _ e => by simp at e)
end Go.Proofs.YthlincikgdblfaaGreat
