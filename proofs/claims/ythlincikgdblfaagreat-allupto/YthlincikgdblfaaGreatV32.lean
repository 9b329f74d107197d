import Derived.Test.YthlincikgdblfaaGreatV31
import Derived.Test.YthlincikgdblfaaGreatV27
namespace Go.Proofs.YthlincikgdblfaaGreat
set_option linter.unusedVariables false

theorem levelBytes_len (z : Nat) (bits : List Bool) (n : Nat) (hb : bits.length = n) : (Rot.le16 z ++ Rot.bitsOf bits).length = Wd n := by
  have fp := (row_fits bits).packed
  have fa := (row_fits bits).ahead
  rw [row_count, hb] at fp fa
  have hf : ∀ l : List Nat, (l.flatMap Rot.le16).length = 2 * l.length := flat_len
  unfold Rot.bitsOf Rot.Row.bytes
  rw [List.length_append, List.length_append, hf, fp, fa]
  show 2 + _ = _
  unfold Wd
  omega
/-- THE TREE OF A FILE keeps what a load looks at. -/
theorem tree_good {s : List UInt8} {n : Nat} (hn : nn s = n) (hn2 : n ≤ 250) (hd : dd s 1 = Rot.treeOf (Rot.colRead s 44 n)) (h0 : sz s 0 = 2) (h1 : sz s 1 = 8 * Wd n) : zerosOk (zerosTo (dd s 1) (nn s) 8) (pc (dd s 1) (nn s)) (nn s) 8 ∧ bitsOk (pc (dd s 1) (nn s)) (dc (dd s 1) (nn s)) (nn s) 8 := by
  subst hn
  have hlb : ∀ f, (Rot.levelBits s f (nn s)).length = nn s := fun f => by simp [Rot.levelBits]
  have key : ∀ k, k < 8 → zAt (dd s 1) (nn s) k = Rot.zs s (Rot.lvl 44 (nn s) k) (nn s) ∧ pc (dd s 1) (nn s) k = (Rot.rowOf (Rot.levelBits s (Rot.lvl 44 (nn s) k) (nn s))).packed ∧ dc (dd s 1) (nn s) k = (Rot.rowOf (Rot.levelBits s (Rot.lvl 44 (nn s) k) (nn s))).ahead := by
    intro k hk
    refine level_back (hlb _) (by omega) (by have := Rot.zs_le s (Rot.lvl 44 (nn s) k) (nn s); omega) ?_
    rw [hd, Rot.tree_read]
    exact chunk_of _ (Wd (nn s)) (fun l => levelBytes_len _ _ _ (hlb _)) 8 k hk
  have lev : ∀ k, k < 8 → Rot.levelBits (pc (dd s 1) (nn s) k) 0 (nn s) = Rot.levelBits s (Rot.lvl 44 (nn s) k) (nn s) := by
    intro k hk
    rw [piece_is h0 h1 hk]
    exact levelBits_piece s _ _ _ (Nat.le_refl _)
  refine ⟨fun k hk => ?_, fun k hk => ?_⟩
  · have hz : (zerosTo (dd s 1) (nn s) 8)[k]? = some (zAt (dd s 1) (nn s) k) := by
      unfold zerosTo
      rw [List.getElem?_map, List.getElem?_range hk]
      rfl
    rw [hz, Option.getD_some, (key k hk).1, os_zs, piece_is h0 h1 hk]
    exact (Rot.zs_piece s _ _ (nn s) (Nat.le_refl _) (nn s) (Nat.le_refl _)).symm
  · unfold agrees
    rw [lev k hk]
    exact ⟨(key k hk).2.1, (key k hk).2.2⟩
/-- THE FIRST ROWS OF A FILE. -/
theorem first_good {s t : List UInt8} {rows : List Nat} {n : Nat} (hR : Rot.IsRows t rows) (hn : nn s = n) (hn2 : n ≤ 250) (hl : t.length = n) (hc : Rot.colRead s 44 n = Rot.columnOf t rows) (hd : dd s 2 = Rot.firstOf t) : firstOk (Rot.numAt (dd s 2)) s (nn s) := by
  intro c hc2
  subst hn
  rw [hd, ← Rot.first_column hR, ← hc]
  have hb : ∀ x ∈ (List.range 256).map (Rot.belowOf (Rot.colRead s 44 (nn s))), x < 65536 := by
    intro x hx
    obtain ⟨i, _, rfl⟩ := List.mem_map.1 hx
    have := Rot.below_le (Rot.colRead s 44 (nn s)) i
    have h2 := Rot.colRead_len s 44 (nn s)
    omega
  have hf : Rot.firstOf (Rot.colRead s 44 (nn s)) = ((List.range 256).map (Rot.belowOf (Rot.colRead s 44 (nn s)))).flatMap Rot.le16 ++ [] := by
    unfold Rot.firstOf
    rw [List.flatMap_map, List.append_nil]
  rw [hf, numAt_flat _ _ c (by simpa using hc2) hb]
  simp
end Go.Proofs.YthlincikgdblfaaGreat

namespace Go.Proofs.YthlincikgdblfaaGreat
set_option linter.unusedVariables false

theorem packed_at (l : List Bool) (i : Nat) : (Rot.bitAt (Rot.rowOf l).packed 0 i == 1) = (l[i]?).getD false := by
  rw [← Rot.packed_bit]
  unfold Rot.bitAt
  rw [Nat.zero_add, Nat.testBit_eq_decide_div_mod_eq]
  rfl
theorem levelBits_packed (l : List Bool) : Rot.levelBits (Rot.rowOf l).packed 0 l.length = l := by
  apply List.ext_getElem
  · simp [Rot.levelBits]
  · intro i h1 h2
    have := packed_at l i
    rw [List.getElem?_eq_getElem h2, Option.getD_some] at this
    simpa [Rot.levelBits] using this
theorem os_filter {M : List UInt8} {rows : List Nat} {p : Nat → Bool} (hb : ∀ i (hi : i < rows.length), (Rot.bitAt M 0 i == 1) = p (rows[i]'hi)) : ∀ i, i ≤ rows.length → Rot.os M i = ((rows.take i).filter p).length
  | 0, _ => by
    have : Rot.os M 0 = 0 := rfl
    rw [this]
    simp
  | i + 1, h => by
    have hi : i < rows.length := by omega
    rw [List.take_succ_eq_append_getElem hi, List.filter_append, List.length_append, ← os_filter hb i (by omega), Rot.os_succ]
    have hlt := Rot.bitAt_lt M 0 i
    by_cases e : Rot.bitAt M 0 i = 1
    · have h2 : p (rows[i]'hi) = true := by rw [← hb i hi, e]; rfl
      rw [e]
      simp [h2]
    · have e0 : Rot.bitAt M 0 i = 0 := by omega
      have h2 : p (rows[i]'hi) = false := by rw [← hb i hi, e0]; rfl
      rw [e0]
      simp [h2]
theorem filter_at {M : List UInt8} {rows : List Nat} {p : Nat → Bool} (hb : ∀ i (hi : i < rows.length), (Rot.bitAt M 0 i == 1) = p (rows[i]'hi)) (i : Nat) (hi : i < rows.length) (h1 : Rot.bitAt M 0 i = 1) : ((rows.filter p)[Rot.os M i]?).getD 0 = rows[i]'hi := by
  have h2 : p (rows[i]'hi) = true := by rw [← hb i hi, h1]; rfl
  have e : rows.filter p = (rows.take i).filter p ++ rows[i]'hi :: (rows.drop (i + 1)).filter p := by
    conv => lhs; rw [← List.take_append_drop i rows, List.drop_eq_getElem_cons hi, List.filter_append, List.filter_cons]
    rw [if_pos h2]
  rw [e, os_filter hb i (by omega), List.getElem?_append_right (Nat.le_refl _), Nat.sub_self]
  rfl
/-- MARKS AND PLACES OF A FILE. -/
theorem marks_good {s : List UInt8} {rows : List Nat} {r n : Nat} (hn : nn s = n) (hn2 : n ≤ 250) (hl : rows.length = n + 1) (hle : ∀ p ∈ rows, p ≤ n) (h3 : dd s 3 = Rot.marksOf rows r) (h4 : dd s 4 = Rot.placesOf rows r) :
    bitsOk (fun _ => mk s) (fun _ => mkD s) (nn s + 1) 1 ∧ (dd s 4).length = 2 * Rot.os (mk s) (nn s + 1) ∧ ∀ i (hi : i < rows.length), markOk (mk s) (Rot.nums (dd s 4) (Rot.os (mk s) (nn s + 1))) r i (rows[i]'hi) := by
  subst hn
  have hL : (rows.map (Rot.isMarked r)).length = nn s + 1 := by rw [List.length_map, hl]
  have fp := (row_fits (rows.map (Rot.isMarked r))).packed
  have fa := (row_fits (rows.map (Rot.isMarked r))).ahead
  rw [row_count, hL] at fp fa
  have e3 : dd s 3 = (Rot.rowOf (rows.map (Rot.isMarked r))).packed ++ ((Rot.rowOf (rows.map (Rot.isMarked r))).ahead.flatMap Rot.le16 ++ []) := by
    rw [h3, List.append_nil]
    rfl
  have hm : mk s = (Rot.rowOf (rows.map (Rot.isMarked r))).packed := by
    unfold mk
    rw [e3, List.take_left' fp]
  have hD : mkD s = (Rot.rowOf (rows.map (Rot.isMarked r))).ahead := by
    unfold mkD
    rw [e3, List.drop_left' fp, ← fa, nums_flat _ _ (ahead_lt _ (by omega))]
  have hb : ∀ i (hi : i < rows.length), (Rot.bitAt (mk s) 0 i == 1) = Rot.isMarked r (rows[i]'hi) := by
    intro i hi
    rw [hm, packed_at, List.getElem?_map, List.getElem?_eq_getElem hi]
    rfl
  have hos : Rot.os (mk s) (nn s + 1) = (rows.filter (Rot.isMarked r)).length := by
    rw [os_filter hb (nn s + 1) (by omega), ← hl, List.take_length]
  have hQ : Rot.nums (dd s 4) (Rot.os (mk s) (nn s + 1)) = rows.filter (Rot.isMarked r) := by
    have e4 : dd s 4 = (rows.filter (Rot.isMarked r)).flatMap Rot.le16 ++ [] := by rw [h4, List.append_nil]; rfl
    rw [e4, hos, nums_flat _ _ (fun x hx => by have := hle x (List.mem_filter.1 hx).1; omega)]
  refine ⟨fun i hi => ?_, ?_, fun i hi => ?_⟩
  · have e := levelBits_packed (rows.map (Rot.isMarked r))
    rw [hL, ← hm] at e
    unfold agrees
    show mk s = _ ∧ mkD s = _
    rw [e]
    exact ⟨hm, hD⟩
  · rw [h4, hos]
    exact places_len rows r
  · rw [hQ]
    exact ⟨hb i hi, fun h1 => filter_at hb i hi h1⟩
end Go.Proofs.YthlincikgdblfaaGreat

namespace Go.Proofs.YthlincikgdblfaaGreat
set_option linter.unusedVariables false

/-- EVERY FILE: of a file a load finds nothing that is otherwise. -/
theorem file_good {s t : List UInt8} {r : Nat} (h : Rot.IsFile s t r) : Good s ∧ nn s = t.length ∧ rr s = r ∧ Rot.spell (Rot.colRead s 44 (nn s)) (lastIn s) (nn s) = t := by
  obtain ⟨ht, hr, rows, hR, rfl⟩ := h
  have A := file_apt hR ht hr
  have hcol := Rot.file_column hR r
  generalize Rot.fileOf t rows r = s at A hcol
  have hrl := Rot.rows_length hR
  have hcl := column_length hR
  have hll := Rot.last_le hR
  have hW := Rot.rows_whole hR
  have hsp := Rot.spell_text hR
  rw [hcl] at hsp
  obtain ⟨d0, d1, d2, d3, d4⟩ := A.dds
  obtain ⟨l0, l1, l2, l3, l4⟩ := A.le
  obtain ⟨m0, m1, m2, m3, m4⟩ := A.sums
  have hn := A.n
  have hlast : lastIn s = rows.idxOf 0 := by
    unfold lastIn
    rw [d0]
    exact le16_at _ (by omega)
  have z0 : sz s 0 = 2 := by rw [A.szs.1, d0]; rfl
  have z1 : sz s 1 = 8 * Wd t.length := by rw [A.szs.2, d1, treeOf_len, hcl]; rfl
  have TG := tree_good hn ht (by rw [d1, hcol]) z0 z1
  have FG := first_good hR hn ht rfl hcol d2
  have MG := marks_good hn ht hrl (fun p hp => by have := List.mem_range.1 (hR.perm.mem_iff.1 hp); omega) d3 d4
  have k0 : (dd s 0).length = 2 * 1 := by rw [d0]; rfl
  have k1 : (dd s 1).length = 8 * Wd (nn s) := by rw [d1, treeOf_len, hcl, hn]; rfl
  have k2 : (dd s 2).length = 2 * 256 := by rw [d2, first_len]
  have k3 : (dd s 3).length = (nn s + 1 + 7) / 8 + 2 * ((nn s + 1 + 15) / 16) := by rw [d3, marks_len, hrl, hn]
  have k4 := MG.2.1
  have dr : ∀ {l : List UInt8} {m : Nat}, l.length = m → l.drop m = [] := fun h => List.drop_eq_nil_of_le (Nat.le_of_eq h)
  refine ⟨⟨A.head, A.table, l0, Nat.le_of_eq k0.symm, ⟨dr k0, m0⟩, l1, Nat.le_of_eq k1.symm, ⟨TG.1, TG.2, dr k1, m1⟩, l2, Nat.le_of_eq k2.symm, ⟨dr k2, m2⟩, l3, Nat.le_of_eq k3.symm, ⟨MG.1, dr k3, m3⟩, l4, Nat.le_of_eq k4.symm, ⟨dr k4, m4⟩, A.fin, FG, ?_⟩, hn, A.rate, by rw [hn, hcol, hlast]; exact hsp⟩
  have MK := MG.2.2
  rw [A.rate, hlast, hn, hcol]
  rw [hn] at MK
  refine ⟨hll, fun k hk => ⟨hW.on k (by omega), ?_⟩, ?_⟩
  · obtain ⟨hw, e⟩ := Rot.walk_rows hR k (by omega)
    have := MK _ hw
    rw [e] at this
    exact this
  · obtain ⟨hw, e⟩ := Rot.walk_rows hR t.length (Nat.le_refl _)
    have := MK _ hw
    rw [e, Nat.sub_self] at this
    exact this
theorem good_iff (s : List UInt8) : Good s ↔ ∃ t r, Rot.IsFile s t r := ⟨good_file, fun ⟨_, _, h⟩ => (file_good h).1⟩
end Go.Proofs.YthlincikgdblfaaGreat

namespace Go.Proofs.YthlincikgdblfaaGreat
open Go.RowKit
set_option linter.unusedVariables false

/-- THE INDEX OF A TEXT, at a pointer: it stays for every world that keeps the blocks from B on. -/
def Idx (B : Nat) (w : World) (p : Nat) (s t : List UInt8) (r : Nat) : Prop := Rot.IsFile s t r ∧ B ≤ p ∧ ∃ x, B ≤ x ∧ ∀ w'', Stay B w w'' → w''.cell? ⟨p, 0, none⟩ = some (.pointer (some ⟨x, 0, none⟩)) ∧ Xv w'' x s t.length r (lastIn s) (Rot.numAt (dd s 2)) (mk s) (Rot.nums (dd s 4) (Rot.os (mk s) (t.length + 1)))
theorem Idx.stay {B : Nat} {w w' : World} {p : Nat} {s t : List UInt8} {r : Nat} (h : Idx B w p s t r) (S : Stay B w w') : Idx B w' p s t r := by
  obtain ⟨h1, h2, x, h3, h4⟩ := h
  exact ⟨h1, h2, x, h3, fun w'' S' => h4 w'' (S.trans S')⟩
/-- LOAD, in the words of what is a file. -/
theorem load_is (b : Nat) (S : ByteArray) (vs : Value) (sz : List Int) (w : World) (h : Src w b S vs sz 0) (hs : S.size ≤ 4000) (hlow : ∀ a n c, vs = .slice (some a) n c → a.block < w.heap.size) :
    Calls Tryz.prog 15 #[.pointer (some ⟨b, 0, none⟩)] w fun e w' => ∃ k, Src w' b S vs sz k ∧ w.grownBy w' (some b) ∧ ((e = .returned (.tuple #[.pointer none, .int .i64 3]) ∧ Rot.Reads S.size sz 0 0 0 false k) ∨ (e = .returned (.tuple #[.pointer none, .int .i64 4]) ∧ Rot.Reads S.size sz 0 0 0 true k ∧ ¬ ∃ t r, Rot.IsFile S.data.toList t r) ∨ (∃ p t r, e = .returned (.tuple #[.pointer (some ⟨p, 0, none⟩), .int .i64 0]) ∧ Rot.Reads S.size sz 0 0 0 true k ∧ Idx w.heap.size w' p S.data.toList t r)) := by
  refine (load_main b S vs sz w h hs hlow).mono ?_
  rintro e w' ⟨k, h1, h2, (⟨h3, h4⟩ | ⟨h3, h4, h5⟩ | ⟨p, x, h3, h4, h5, h6, h7, h8⟩)⟩
  · exact ⟨k, h1, h2, Or.inl ⟨h3, h4⟩⟩
  · exact ⟨k, h1, h2, Or.inr (Or.inl ⟨h3, h4, fun hf => h5 ((good_iff _).2 hf)⟩)⟩
  · have hi := good_is h5
    obtain ⟨_, hn, hr, _⟩ := file_good hi
    refine ⟨k, h1, h2, Or.inr (Or.inr ⟨p, _, _, h3, h4, hi, h6, x, h7, fun w'' S' => ?_⟩)⟩
    rw [← hn]
    exact h8 w'' S'
end Go.Proofs.YthlincikgdblfaaGreat
