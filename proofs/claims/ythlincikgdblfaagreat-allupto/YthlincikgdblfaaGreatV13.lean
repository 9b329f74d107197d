import Derived.Test.YthlincikgdblfaaGreatV12
import Derived.Laws.Cover3
import Derived.Test.YthlincikgdblfaaGreatV08
namespace Go.Proofs.YthlincikgdblfaaGreat
set_option linter.unusedVariables false
namespace Rot
/-- The k-th bit of those that stand from place f on. -/
def bitAt (s : List UInt8) (f k : Nat) : Nat := ((s[f + k / 8]?).getD 0).toNat / 2 ^ (k % 8) % 2
theorem bitAt_lt (s : List UInt8) (f k : Nat) : bitAt s f k < 2 := Nat.mod_lt _ (by decide)
/-- How many of the first k bits are 0. -/
def zs (s : List UInt8) (f : Nat) : Nat → Nat
  | 0 => 0
  | k + 1 => zs s f k + (1 - bitAt s f k)
theorem zs_le (s : List UInt8) (f : Nat) : ∀ k, zs s f k ≤ k
  | 0 => Nat.le_refl _
  | k + 1 => by have := zs_le s f k; simp only [zs]; omega
theorem zs_mono (s : List UInt8) (f k : Nat) : ∀ d, zs s f k ≤ zs s f (k + d) ∧ zs s f (k + d) ≤ zs s f k + d
  | 0 => by simp
  | d + 1 => by
    have := zs_mono s f k d
    have e : zs s f (k + (d + 1)) = zs s f (k + d) + (1 - bitAt s f (k + d)) := rfl
    omega
/-- Where bit k goes behind a level. -/
def nxt (s : List UInt8) (f n k : Nat) : Nat := if bitAt s f k = 0 then zs s f k else zs s f n + k - zs s f k
theorem nxt_lt (s : List UInt8) (f n k : Nat) (hk : k < n) : nxt s f n k < n := by
  obtain ⟨d, rfl⟩ : ∃ d, n = k + 1 + d := ⟨n - (k + 1), by omega⟩
  have h1 := zs_mono s f (k + 1) d
  have h2 : zs s f (k + 1) = zs s f k + (1 - bitAt s f k) := rfl
  have h3 := zs_le s f k
  have h4 := bitAt_lt s f k
  unfold nxt
  split <;> omega
/-- Where place j of the column is at level l. -/
def posn (s : List UInt8) (at' n j : Nat) : Nat → Nat
  | 0 => j
  | l + 1 => nxt s (at' + l * (2 + (n + 7) / 8 + 2 * ((n + 15) / 16)) + 2) n (posn s at' n j l)
theorem posn_lt (s : List UInt8) (at' n j : Nat) (hj : j < n) : ∀ l, posn s at' n j l < n
  | 0 => hj
  | l + 1 => nxt_lt _ _ _ _ (posn_lt s at' n j hj l)
/-- What its first l bits say. -/
def code (s : List UInt8) (at' n j : Nat) : Nat → Nat
  | 0 => 0
  | l + 1 => 2 * code s at' n j l + bitAt s (at' + l * (2 + (n + 7) / 8 + 2 * ((n + 15) / 16)) + 2) (posn s at' n j l)
theorem code_lt (s : List UInt8) (at' n j : Nat) : ∀ l, code s at' n j l < 2 ^ l
  | 0 => by simp [code]
  | l + 1 => by
    have h1 := code_lt s at' n j l
    have h2 := bitAt_lt s (at' + l * (2 + (n + 7) / 8 + 2 * ((n + 15) / 16)) + 2) (posn s at' n j l)
    simp only [code]
    rw [Nat.pow_succ]
    omega
/-- The column that a tree says. -/
def colRead (s : List UInt8) (at' n : Nat) : List UInt8 := (List.range n).map fun j => UInt8.ofNat (code s at' n j 8)
end Rot
open Go.RowKit

theorem toList_at (s : ByteArray) (j : Nat) (hj : j < s.size) : ((s.data.toList[j]?).getD 0).toNat = (s[j]'hj).toNat := by rw [byte_at s j hj]
theorem idx_str (s : ByteArray) (k : Nat) (hk : k < s.size) (z : Int) (hz : z = (k : Int)) (w : World) : (Instr.index 9 (.string s) (.int .i64 z)).run Tryz.prog w = .ok (.int .u8 ((s[k]'hk).toNat : Int)) w := by
  subst hz
  have hg : s[k]? = some (s[k]'hk) := getElem?_pos s k hk
  simp [Instr.index, run_underlying Tryz.underlying9, asIntOf, hg, go_sem]
theorem rnumber_any (s : ByteArray) (k : Nat) (w : World) (hk : k + 1 < s.size) (hs : s.size ≤ 4000) :
    Calls Tryz.prog 141 #[.string s, .int .i64 k] w fun e w' => e = .returned (.int .i64 ((s[k]'(by omega)).toNat + 256 * (s[k + 1]'hk).toNat : Nat)) ∧ ∃ m, w' = w.drewN m := by
  have h0 := (s[k]'(by omega)).toNat_lt
  have h1 := (s[k + 1]'hk).toNat_lt
  have i0 := idx_str s k (by omega) (k : Int) rfl
  have i1 := idx_str s (k + 1) hk ((k : Int) + 1) (by omega)
  go_enter Tryz.func141, Tryz.ntmps141
  go_wp2_with fail
  go_quiet (fail)
  go_wp2_with fail
  go_ret
  exact ⟨ret_int (by omega), _, rfl⟩
/-- Behind i halvings. -/
def HalfV (x k : Nat) (b i : Value) : Prop := ∃ q v : Nat, q ≤ k % 8 ∧ i = .int .i64 (q : Int) ∧ b = .int .i64 (v : Int) ∧ v ≤ 255 ∧ Hid (v = x / 2 ^ q)
theorem HalfV.mk {x k : Nat} {b i : Value} (q v : Nat) (h1 : q ≤ k % 8) (h2 : i = .int .i64 (q : Int)) (h3 : b = .int .i64 (v : Int)) (h4 : v ≤ 255) (h5 : v = x / 2 ^ q) : HalfV x k b i := ⟨q, v, h1, h2, h3, h4, h5⟩
theorem rbit_any (s : ByteArray) (f k : Nat) (w : World) (hk : f + k / 8 < s.size) (hs : s.size ≤ 4000) :
    Calls Tryz.prog 157 #[.string s, .int .i64 f, .int .i64 k] w fun e w' => e = .returned (.int .i64 (Rot.bitAt s.data.toList f k : Nat)) ∧ w' = w := by
  have hx := (s[f + k / 8]'hk).toNat_lt
  have hkk : k ≤ 40000 := by omega
  have HB : Hid (Rot.bitAt s.data.toList f k = (s[f + k / 8]'hk).toNat / 2 ^ (k % 8) % 2) := by unfold Rot.bitAt; rw [toList_at s _ hk]; exact rfl
  have hi := idx_str s (f + k / 8) hk ((f : Int) + (k : Int) / 8) (by omega)
  generalize (s[f + k / 8]'hk).toNat = x at hx HB hi
  go_enter Tryz.func157, Tryz.ntmps157
  go_wp2_with fail
  go_loop [7, 8] (fun b i => HalfV x k b i) (fun _ i => k % 8 - (intOf i).toNat)
  case atStart => exact HalfV.mk 0 x (Nat.zero_le _) rfl rfl (by omega) (by simp)
  case round =>
    obtain ⟨q, v, hq, rfl, rfl, hv, HV⟩ := hrel
    by_cases hlt : q < k % 8
    · have HV2 : Hid (v / 2 = x / 2 ^ (q + 1)) := by
        refine hide ?_
        rw [unhide HV, Nat.pow_succ, Nat.div_div_eq_div_mul]
      go_wp2_with fail
      go_round
      case rel => exact HalfV.mk (q + 1) (v / 2) (by omega) (by go_num) (by go_num) (by omega) (unhide HV2)
      case measure => simp [intOf]; omega
    · have eq : q = k % 8 := by omega
      have HV2 : Hid (v % 2 = x / 2 ^ (k % 8) % 2) := by
        refine hide ?_
        rw [unhide HV, eq]
      clear HV
      go_wp2_with fail
      go_ret
      refine ⟨ret_int ?_, rfl⟩
      rw [unhide HB, ← unhide HV2]
      omega
end Go.Proofs.YthlincikgdblfaaGreat

namespace Go.Proofs.YthlincikgdblfaaGreat
open Go.RowKit
set_option linter.unusedVariables false

theorem eql_nil {P : Program} (w : World) (t e : TypeId) (a : Option Addr) (l c : Nat) (h : P.underlying t = some (.slice e)) : (binOp .eql t (.slice a l c) (.slice none 0 0)).run P w = .ok (.bool a.isNone) w := by
  simp only [binOp]
  simp [run_equal_slice_nil w t e a l c h]
set_option maxRecDepth 100000 in
/-- A copy of a piece. -/
theorem clone_any (g : Nat) (v : Value) (l : List UInt8) (w : World) (h : Vw w g v l) (hg : g < w.heap.size) (hl : l.length < 100000) :
    Calls Tryz.prog 144 #[v] w fun e w' => ∃ v', e = .returned v' ∧ Bs w' w.heap.size v' l ∧ w.grownBy w' none := by
  obtain ⟨off, cap, rfl, h2, h3, hc⟩ := h
  obtain ⟨i0, hi, hz0, hz1, hz2⟩ := info_parts info8
  have HC := hide hc
  clear hc
  have heq := fun w => eql_nil (P := Tryz.prog) w 45 5 (some ⟨g, off, none⟩) l.length cap Tryz.underlying45
  go_enter Tryz.func144, Tryz.ntmps144
  go_wp2_with (at_builtin; refine wpList_append_own_at _ rfl (.tmp 5) (.tmp 6) 45 rfl w.heap.size 5 i0 (.int .u8 0) 1 1 Tryz.underlying45 hi hz0 hz1 hz2 rfl (by decide) _ 0 [] rfl ?own ⟨g, off, none⟩ l.length cap (by8 l) rfl ?len ?cells (by8_one l) ?m1 ?m2 ?m3 ?_)
  case own => exact World.ownsRow_lit (e := 5) (size := 1) w #[] 0 (Nat.le_refl w.heap.size) (by unfold maxLen; omega) rfl
  case len => rw [by8_length]; omega
  case cells =>
    intro j u hu
    rw [addr_add2]
    obtain ⟨hj, he⟩ := List.getElem?_eq_some_iff.1 hu
    have hj2 : j < l.length := by rwa [by8_length] at hj
    have hcj := unhide HC j hj2
    have he2 : u = .int .u8 ((l[j]'hj2).toNat : Int) := by rw [← he]; simp [by8]
    rw [he2]
    exact (World.grownBy_alloc w (.cells #[] 5) none).cell hcj (by simp)
  case m1 => unfold maxLen; omega
  case m2 => omega
  case m3 => simp
  intro v' w' O G _ _
  go_wp2_with fail
  go_ret
  refine ⟨_, rfl, ?_, grown_trans (World.grownBy_alloc w _ none) G (Or.inr ⟨_, rfl, Nat.le_refl _⟩)⟩
  unfold Bs
  simpa using O

/-- BITS AT AN ADDRESS: their bytes, their directory, how many, how many are 1. -/
structure Bv (w : World) (b o : Nat) (p a : Value) (P : List UInt8) (D : List Nat) (n m : Nat) : Prop where
  c0 : w.cell? ⟨b, o, none⟩ = some p
  c1 : w.cell? ⟨b, o + 1, none⟩ = some a
  c2 : w.cell? ⟨b, o + 2, none⟩ = some (.int .i64 (n : Int))
  c3 : w.cell? ⟨b, o + 3, none⟩ = some (.int .u16 (m : Int))
  packed : Bs w 0 p P
  ahead : Us w 0 a D
theorem Bs.slice {w : World} {B : Nat} {v : Value} {l : List UInt8} (h : Bs w B v l) (hl : 0 < l.length) : ∃ g cap, v = .slice (some ⟨g, 0, none⟩) l.length cap ∧ l.length ≤ cap ∧ ∀ j (hj : j < l.length), w.cell? ⟨g, j, none⟩ = some (.int .u8 ((l[j]'hj).toNat : Int)) := by
  rcases h.form with ⟨rfl, rfl⟩ | ⟨g, cap, rfl, _, _, h3⟩
  · simp at hl
  · exact ⟨g, cap, rfl, h3, fun j hj => h.cell j hj⟩
theorem Us.slice {w : World} {B : Nat} {v : Value} {l : List Nat} (h : Us w B v l) (hl : 0 < l.length) : ∃ g cap, v = .slice (some ⟨g, 0, none⟩) l.length cap ∧ l.length ≤ cap ∧ ∀ j (hj : j < l.length), w.cell? ⟨g, j, none⟩ = some (.int .u16 ((l[j]'hj : Nat) : Int)) := by
  rcases h.form with ⟨rfl, rfl⟩ | ⟨g, cap, rfl, _, _, h3⟩
  · simp at hl
  · exact ⟨g, cap, rfl, h3, fun j hj => h.cell j hj⟩
theorem bit_any (b o : Nat) (p a : Value) (P : List UInt8) (D : List Nat) (n m k : Nat) (w : World) (h : Bv w b o p a P D n m) (hk : k / 8 < P.length) (hP : P.length ≤ 1000) :
    Calls Tryz.prog 101 #[.pointer (some ⟨b, o, none⟩), .int .i64 k] w fun e w' => e = .returned (.bool (Rot.bitAt P 0 k == 1)) ∧ w' = w := by
  obtain ⟨g, cap, rfl, hcap, hcell⟩ := h.packed.slice (by omega)
  have c0 := h.c0
  have ck := hcell (k / 8) hk
  have HB : Hid (Rot.bitAt P 0 k = (P[k / 8]'hk).toNat / 2 ^ (k % 8) % 2) := by
    unfold Rot.bitAt
    rw [Nat.zero_add, List.getElem?_eq_getElem hk]
    exact rfl
  have hx : (P[k / 8]'hk).toNat < 256 := (P[k / 8]'hk).toNat_lt
  generalize (P[k / 8]'hk).toNat = x at ck HB hx
  clear hcell h
  obtain ⟨q, hq⟩ : ∃ q : Nat, q = k / 8 := ⟨_, rfl⟩
  obtain ⟨r, hr⟩ : ∃ r : Nat, r = k % 8 := ⟨_, rfl⟩
  have hd8 : ((k : Int) / 8) = (q : Int) := by omega
  have hm8 : ((k : Int) % 8) = (r : Int) := by omega
  have hj : q < 1000 := by omega
  have hi8 : r < 8 := by omega
  have hkk : k < 10000 := by omega
  rw [← hq] at ck hk
  rw [← hr] at HB
  clear hq hr
  go_enter Tryz.func101, Tryz.ntmps101
  go_wp2_with fail
  go_ret
  refine ⟨ret_bool ?_, rfl⟩
  rw [unhide HB]
  have e1 : ((x : Int) / 2 ^ r) = ((x / 2 ^ r : Nat) : Int) := by simp
  have e2 : x / 2 ^ r < 256 := Nat.lt_of_le_of_lt (Nat.div_le_self _ _) hx
  rw [e1]
  have e3 := u8_and_nat (x / 2 ^ r) 1 e2 (by decide)
  rw [Nat.and_one_is_mod] at e3
  have e4 : bits BinOp.and IntKind.u8 ((x / 2 ^ r : Nat) : Int) 1 = ((x / 2 ^ r % 2 : Nat) : Int) := e3
  rw [e4]
  rw [Bool.eq_iff_iff]
  simp only [beq_iff_eq]
  omega
namespace Rot
/-- How many of the first k bits are 1. -/
def os (P : List UInt8) (k : Nat) : Nat := k - zs P 0 k
theorem os_le (P : List UInt8) (k : Nat) : os P k ≤ k := by unfold os; omega
theorem os_succ (P : List UInt8) (k : Nat) : os P (k + 1) = os P k + bitAt P 0 k := by
  have h1 := zs_le P 0 k
  have h2 := bitAt_lt P 0 k
  unfold os
  show k + 1 - (zs P 0 k + (1 - bitAt P 0 k)) = _
  omega
end Rot
theorem Bv.grown {w w' : World} {b o : Nat} {p a : Value} {P : List UInt8} {D : List Nat} {n m : Nat} {r : Option Nat} (h : Bv w b o p a P D n m) (hg : w.grownBy w' r) (hb : r ≠ some b) (hp : p.ownBlock = none ∨ p.ownBlock ≠ r) (ha : a.ownBlock = none ∨ a.ownBlock ≠ r) : Bv w' b o p a P D n m := by
  have hlt : b < w.heap.size := World.block_lt_of_cell? w ⟨b, o, none⟩ h.c0
  exact ⟨(grown_cell hg hlt hb _).trans h.c0, (grown_cell hg hlt hb _).trans h.c1, (grown_cell hg hlt hb _).trans h.c2, (grown_cell hg hlt hb _).trans h.c3, h.packed.kept hg hp, World.ownsRow.kept h.ahead hg ha⟩
theorem Us.kept0 {w w' : World} {base : Nat} {v : Value} {l : List Nat} (h : Us w base v l) (hg : w.grownBy w' none) : Us w' base v l := ownsRow_kept0 h hg
theorem Bv.kept0 {w w' : World} {b o : Nat} {p a : Value} {P : List UInt8} {D : List Nat} {n m : Nat} (h : Bv w b o p a P D n m) (hg : w.grownBy w' none) : Bv w' b o p a P D n m := by
  have hlt : b < w.heap.size := World.block_lt_of_cell? w ⟨b, o, none⟩ h.c0
  exact ⟨(grown_cell hg hlt (by simp) _).trans h.c0, (grown_cell hg hlt (by simp) _).trans h.c1, (grown_cell hg hlt (by simp) _).trans h.c2, (grown_cell hg hlt (by simp) _).trans h.c3, h.packed.kept0 hg, h.ahead.kept0 hg⟩
theorem Bv.count {w : World} {b o : Nat} {p a : Value} {P : List UInt8} {D : List Nat} {n m : Nat} (h : Bv w b o p a P D n m) (hp : p.ownBlock ≠ some b) (ha : a.ownBlock ≠ some b) (m' : Nat) (z : Int) (hz : z = (m' : Int)) : Bv (w.setCell ⟨b, o + 3, none⟩ (.int .u16 z)) b o p a P D n m' := by
  subst hz
  have G := grown_setCell w b (o + 3) (.int .u16 (m' : Int))
  have ne : ∀ i, i ≠ o + 3 → (⟨b, o + 3, none⟩ : Addr) ≠ ⟨b, i, none⟩ := fun i hi e => hi (by injection e with _ e2; exact e2.symm)
  refine ⟨?_, ?_, ?_, ?_, h.packed.kept G (Or.inr hp), World.ownsRow.kept h.ahead G (Or.inr ha)⟩
  · rw [World.cell?_setCell_other _ _ _ _ (ne _ (by omega))]; exact h.c0
  · rw [World.cell?_setCell_other _ _ _ _ (ne _ (by omega))]; exact h.c1
  · rw [World.cell?_setCell_other _ _ _ _ (ne _ (by omega))]; exact h.c2
  · exact World.cell?_setCell_same _ _ _ h.c3
/-- What Take takes out of the bytes l. -/
structure TakeOut (w w' : World) (b g n : Nat) (l : List UInt8) (p a : Value) : Prop where
  rdr : ∃ v, Rdr w' b g v (l.drop ((n + 7) / 8 + 2 * ((n + 15) / 16)))
  packed : Bs w' w.heap.size p (l.take ((n + 7) / 8))
  ahead : Us w' w.heap.size a (Rot.nums (l.drop ((n + 7) / 8)) ((n + 15) / 16))
  grown : w.grownBy w' (some b)
def onesIn (l : List UInt8) (n : Nat) : Nat := Rot.os (l.take ((n + 7) / 8)) n
/-- Behind k bits. -/
structure CountAt (W wr : World) (L : Nat) (p a : Value) (P : List UInt8) (D : List Nat) (n k : Nat) : Prop where
  bits : Bv wr L 0 p a P D n (Rot.os P k)
  free : wr.frozen? ⟨L, 3, none⟩ = false
  grown : W.grownBy wr (some L)
set_option maxHeartbeats 1000000 in
theorem take_any (b g : Nat) (v : Value) (l : List UInt8) (n : Nat) (w : World) (h : Rdr w b g v l) (hg : g < w.heap.size) (hn : n ≤ 300) :
    Calls Tryz.prog 115 #[.pointer (some ⟨b, 0, none⟩), .int .i64 n] w fun e w' => ((n + 7) / 8 + 2 * ((n + 15) / 16) ≤ l.length ∧ ∃ p a, e = .returned (.agg #[p, a, .int .i64 n, .int .u16 (onesIn l n : Nat)]) ∧ TakeOut w w' b g n l p a) ∨ (l.length < (n + 7) / 8 + 2 * ((n + 15) / 16) ∧ e = .panicked (gu 4) ∧ w.grownBy w' (some b)) := by
  obtain ⟨pl, hpl⟩ : ∃ pl : Nat, pl = (n + 7) / 8 := ⟨_, rfl⟩
  obtain ⟨dl, hdl⟩ : ∃ dl : Nat, dl = (n + 15) / 16 := ⟨_, rfl⟩
  have e1 : (((n : Int) + 7) / 8) = (pl : Int) := by omega
  have e2 : (((n : Int) + 16 - 1) / 16) = (dl : Int) := by omega
  have hbl := h.lt
  have HP := hide hpl
  have HD := hide hdl
  have hplb : pl ≤ 40 := by omega
  have hdlb : dl ≤ 20 := by omega
  rw [← hpl, ← hdl]
  clear hpl hdl
  have h0 := h.grown (World.grownBy_alloc w (.cells #[.slice none 0 0, .slice none 0 0, .int .i64 0, .int .u16 0] 69) none) (by simp) (by simp) hg
  have G0 := hide (World.grownBy_alloc w (.cells #[.slice none 0 0, .slice none 0 0, .int .i64 0, .int .u16 0] 69) (some b))
  by_cases hp : pl ≤ l.length
  case neg =>
    have hcon := bytes_no b g v l pl _ h0 (by omega)
    clear h h0
    go_enter Tryz.func115, Tryz.ntmps115
    go_wp2_with fail
    refine hcon.mono ?_
    rintro e w1 ⟨rfl, rfl⟩
    clear hcon
    go_wp2_with fail
    exact ⟨rfl, Or.inr ⟨by omega, rfl, unhide G0⟩⟩
  have hcon := bytes_yes b g v l pl _ h0 hp
  have H0 := hide h0
  clear h h0
  go_enter Tryz.func115, Tryz.ntmps115
  go_wp2_with fail
  refine hcon.mono ?_
  rintro e w1 ⟨u, rfl, hu, hadv⟩
  clear hcon
  obtain ⟨v1, h1⟩ := Adv.rdr (unhide H0) hadv
  have g1 := Adv.grown hadv
  have hs1 := g1.size
  have hu1 := hu.grown g1 (by intro e; cases e; exact (unhide H0).ne rfl) (by simp; omega)
  have hcon := clone_any g u (l.take pl) w1 hu1 (by simp at hs1; omega) (by rw [List.length_take]; omega)
  have G1 := hide g1
  clear hu hadv g1 hu1
  go_wp2_with fail
  refine hcon.mono ?_
  rintro e w2 ⟨p, rfl, hP, g2⟩
  clear hcon
  obtain ⟨az, cz, rfl⟩ := Bs.shape hP
  rw [List.length_take, Nat.min_eq_left hp] at hP
  have h2 := h1.grown g2 (by simp) (by simp) (by simp at hs1; omega)
  have hs2 := g2.size
  have hcon := nums_any b g v1 (l.drop pl) dl w2 h2 (by simp at hs1; omega) (by omega)
  have G2 := hide g2
  have HPK := hide hP
  clear h1 h2 g2 hP
  go_wp2_with fail
  refine hcon.mono ?_
  rintro e w3 (⟨hlen, rfl, hout⟩ | ⟨hlen, rfl, g3⟩)
  case inr =>
    clear hcon
    have G3 := hide g3
    rw [List.length_drop] at hlen
    clear g3
    go_wp2_with fail
    exact ⟨rfl, Or.inr ⟨by omega, rfl, grown_trans (grown_trans (grown_trans (unhide G0) (unhide G1) (Or.inl rfl)) (grown_weak (unhide G2) _) (Or.inl rfl)) (unhide G3) (Or.inl rfl)⟩⟩
  clear hcon
  rw [List.length_drop] at hlen
  have HO := hide hout
  have hs3 := hout.grown.size
  clear hout
  simp only [World.size_alloc] at hs1
  have hP3 : Bs w3 w1.heap.size (.slice az pl cz) (l.take pl) := (unhide HPK).kept (unhide HO).grown (by
    cases eo : (Value.slice az pl cz).ownBlock with
    | none => exact Or.inl rfl
    | some k => exact Or.inr (by have := (Bs.lt (unhide HPK) eo).1; intro e; cases e; omega))
  have hA3 := (unhide HO).row
  have B0 : Bv (w3.alloc (.cells #[.slice az pl cz, .slice (some ⟨w2.heap.size, 0, none⟩) dl dl, .int .i64 n, .int .u16 0] 69)) w3.heap.size 0 (.slice az pl cz) (.slice (some ⟨w2.heap.size, 0, none⟩) dl dl) (l.take pl) (Rot.nums (l.drop pl) dl) n (Rot.os (l.take pl) 0) := by
    refine ⟨?_, ?_, ?_, ?_, (hP3.alloc _).mono (Nat.zero_le _), ?_⟩
    · go_simp
    · go_simp
    · go_simp
    · go_simp; rfl
    · have := World.ownsRow.alloc hA3 (.cells #[.slice az pl cz, .slice (some ⟨w2.heap.size, 0, none⟩) dl dl, .int .i64 n, .int .u16 0] 69)
      exact ⟨this.1, this.2.imp id fun ⟨g, cap, cur, a, b, c⟩ => ⟨g, cap, cur, a, Nat.zero_le _, c⟩⟩
  have F0 : (w3.alloc (.cells #[.slice az pl cz, .slice (some ⟨w2.heap.size, 0, none⟩) dl dl, .int .i64 n, .int .u16 0] 69)).frozen? ⟨w3.heap.size, 3, none⟩ = false := by go_simp
  go_wp2_with fail
  generalize hWA : (w3.alloc (.cells #[.slice az pl cz, .slice (some ⟨w2.heap.size, 0, none⟩) dl dl, .int .i64 n, .int .u16 0] 69)) = WA at B0 F0 ⊢
  have HWA := hide hWA
  have HB0 := hide (CountAt.mk B0 F0 (World.grownBy.refl WA (some w3.heap.size)))
  have HP3 := hide hP3
  have HA3 := hide hA3
  clear hWA B0 F0 hP3 hA3 HPK
  go_loopw [22] (fun i wr => ∃ k : Nat, k ≤ n ∧ i = .int .i64 k ∧ CountAt WA wr w3.heap.size (.slice az pl cz) (.slice (some ⟨w2.heap.size, 0, none⟩) dl dl) (l.take pl) (Rot.nums (l.drop pl) dl) n k) (fun i _ => n - (intOf i).toNat)
  case atStart => exact ⟨0, Nat.zero_le _, rfl, unhide HB0⟩
  case round =>
    obtain ⟨k, hk, rfl, hC⟩ := hrel
    clear HB0
    by_cases hlt : k < n
    · have hcon := bit_any _ _ _ _ _ _ _ _ k wr hC.bits (by rw [List.length_take, Nat.min_eq_left hp]; omega) (by rw [List.length_take]; omega)
      have c3 := hC.bits.c3
      have f3 := hC.free
      have ho := Rot.os_le (l.take pl) k
      have HS := hide (Rot.os_succ (l.take pl) k)
      have hb2 := Rot.bitAt_lt (l.take pl) 0 k
      have HC := hide hC
      clear hC
      generalize hbt : Rot.bitAt (l.take pl) 0 k = bt at hcon HS hb2
      clear hbt
      rw [Nat.zero_add] at c3
      by_cases hbit : bt = 1
      · subst hbit
        have hpo : (Value.slice az pl cz).ownBlock ≠ some w3.heap.size := by
          intro e
          have := (Bs.lt (unhide HP3) e).2
          omega
        have hao : (Value.slice (some ⟨w2.heap.size, 0, none⟩) dl dl).ownBlock ≠ some w3.heap.size := by
          intro e
          have := (World.ownsRow.lt (unhide HA3) _ e).2
          omega
        have HPO := hide hpo
        have HAO := hide hao
        clear hpo hao
        go_wp2_with fail
        refine hcon.mono ?_
        rintro e w4 ⟨rfl, hw4⟩
        subst hw4
        clear hcon
        go_wp2_with fail
        go_roundw
        case rel =>
          refine ⟨k + 1, by omega, by go_num, ?_, ?_, ?_⟩
          · have := (unhide HC).bits.count (unhide HPO) (unhide HAO) (Rot.os (l.take pl) (k + 1)) _ (by rw [unhide HS])
            rw [Nat.zero_add] at this
            exact this
          · rw [World.frozen?_setCell]; exact f3
          · exact grown_trans (unhide HC).grown (grown_setCell _ _ _ _) (Or.inl rfl)
        case measure => simp [intOf]; omega
      · have hbit0 : bt = 0 := by omega
        subst hbit0
        go_wp2_with fail
        refine hcon.mono ?_
        rintro e w4 ⟨rfl, hw4⟩
        subst hw4
        clear hcon
        go_wp2_with fail
        go_roundw
        case rel =>
          refine ⟨k + 1, by omega, by go_num, ?_, ?_, ?_⟩
          · rw [unhide HS]; exact (unhide HC).bits
          · exact (unhide HC).free
          · exact (unhide HC).grown
        case measure => simp [intOf]; omega
    · have hk' : k = n := by omega
      subst hk'
      have hR : WA.grownBy wr (some w3.heap.size) := hC.grown
      have G3 : w.grownBy w3 (some b) := grown_trans (grown_trans (grown_trans (unhide G0) (unhide G1) (Or.inl rfl)) (grown_weak (unhide G2) _) (Or.inl rfl)) (unhide HO).grown (Or.inl rfl)
      have GA : w3.grownBy WA none := by rw [← unhide HWA]; exact World.grownBy_alloc _ _ _
      have cR : ∀ j x, (w.alloc (.cells #[.slice none 0 0, .slice none 0 0, .int .i64 0, .int .u16 0] 69)).cell? ⟨w.heap.size, j, none⟩ = some x → wr.cell? ⟨w.heap.size, j, none⟩ = some x := by
        intro j x hx
        have h1 := (unhide G1).cell hx (by intro e; injection e with e; simp at e; omega)
        have h2 := (unhide G2).cell h1 (by simp)
        have h3 := (unhide HO).grown.cell h2 (by intro e; injection e with e; simp at e; omega)
        have h4 := GA.cell h3 (by simp)
        exact hR.cell h4 (by intro e; injection e with e; simp at e; omega)
      have fR : ∀ j, wr.frozen? ⟨w.heap.size, j, none⟩ = false := by
        intro j
        have l0 : w.heap.size < (w.alloc (.cells #[.slice none 0 0, .slice none 0 0, .int .i64 0, .int .u16 0] 69)).heap.size := by simp
        have l1 := Nat.lt_of_lt_of_le l0 (unhide G1).size
        have l2 := Nat.lt_of_lt_of_le l1 (unhide G2).size
        have l3 := Nat.lt_of_lt_of_le l2 (unhide HO).grown.size
        have l4 := Nat.lt_of_lt_of_le l3 GA.size
        rw [grown_frozen hR l4 (by intro e; injection e with e; omega), grown_frozen GA l3 (by simp), grown_frozen (unhide HO).grown l2 (by intro e; injection e with e; omega), grown_frozen (unhide G2) l1 (by simp), grown_frozen (unhide G1) l0 (by intro e; injection e with e; omega)]
        go_simp
      have r0 := cR 0 (.slice none 0 0) (by go_simp)
      have r1 := cR 1 (.slice none 0 0) (by go_simp)
      have r2 := cR 2 (.int .i64 0) (by go_simp)
      have r3 := cR 3 (.int .u16 0) (by go_simp)
      have f0 := fR 0
      have f1 := fR 1
      have f2 := fR 2
      have f3 := fR 3
      have c0 := hC.bits.c0
      have c1 := hC.bits.c1
      have c2 := hC.bits.c2
      have c3 := hC.bits.c3
      simp only [Nat.zero_add] at c0 c1 c2 c3
      have HC := hide hC
      have HR := hide hR
      have HG3 := hide G3
      have HGA := hide GA
      clear hC hR G3 GA cR fR
      have hne : w.heap.size ≠ w3.heap.size := by omega
      go_wp2_with fail
      have GE : wr.grownBy ((((wr.setCell ⟨w.heap.size, 0, none⟩ (.slice az pl cz)).setCell ⟨w.heap.size, 1, none⟩ (.slice (some ⟨w2.heap.size, 0, none⟩) dl dl)).setCell ⟨w.heap.size, 2, none⟩ (.int .i64 k)).setCell ⟨w.heap.size, 3, none⟩ (.int .u16 (Rot.os (l.take pl) k : Nat))) (some w.heap.size) :=
        grown_trans (grown_trans (grown_trans (grown_setCell _ _ _ _) (grown_setCell _ _ _ _) (Or.inl rfl)) (grown_setCell _ _ _ _) (Or.inl rfl)) (grown_setCell _ _ _ _) (Or.inl rfl)
      refine bodyPost_ret (v := .agg #[.slice az pl cz, .slice (some ⟨w2.heap.size, 0, none⟩) dl dl, .int .i64 k, .int .u16 (Rot.os (l.take pl) k : Nat)]) (by simp [results, Tryz.results115, go_sem, r0, r1, r2, r3]) rfl (Or.inl ⟨by omega, _, _, by unfold onesIn; rw [← unhide HP], ?_⟩)
      have hpl := unhide HP
      have hdl := unhide HD
      obtain ⟨v9, hv9⟩ := (unhide HO).rdr
      have hsA := (unhide HGA).size
      have hsR := (unhide HR).size
      have hv10 := (hv9.grown (unhide HGA) (by simp) (by simp) (by omega)).grown (unhide HR) (by intro e; injection e with e; omega) (by intro e; injection e with e; omega) (by omega)
      have hv11 := hv10.grown GE (by intro e; injection e with e; omega) (by intro e; injection e with e; omega) (by omega)
      have pb := fun (j : Nat) (eo : (Value.slice az pl cz).ownBlock = some j) => (unhide HP3).lt eo
      have ab := World.ownsRow.lt (unhide HA3)
      have hp1 : Bs wr w1.heap.size (.slice az pl cz) (l.take pl) := ((unhide HP3).kept0 (unhide HGA)).kept (unhide HR) (by
        cases eo : (Value.slice az pl cz).ownBlock with
        | none => exact Or.inl rfl
        | some j => have := pb j eo; exact Or.inr (by intro e; injection e with e; omega))
      have hp2 := hp1.kept GE (by
        cases eo : (Value.slice az pl cz).ownBlock with
        | none => exact Or.inl rfl
        | some j => have := pb j eo; exact Or.inr (by intro e; injection e with e; omega))
      have ha1 : Us wr w2.heap.size (.slice (some ⟨w2.heap.size, 0, none⟩) dl dl) (Rot.nums (l.drop pl) dl) := World.ownsRow.kept (Us.kept0 (unhide HA3) (unhide HGA)) (unhide HR) (Or.inr (by intro e; have := ab _ e; omega))
      have ha2 : Us ((((wr.setCell ⟨w.heap.size, 0, none⟩ (.slice az pl cz)).setCell ⟨w.heap.size, 1, none⟩ (.slice (some ⟨w2.heap.size, 0, none⟩) dl dl)).setCell ⟨w.heap.size, 2, none⟩ (.int .i64 k)).setCell ⟨w.heap.size, 3, none⟩ (.int .u16 (Rot.os (l.take pl) k : Nat))) w2.heap.size (.slice (some ⟨w2.heap.size, 0, none⟩) dl dl) (Rot.nums (l.drop pl) dl) := World.ownsRow.kept ha1 GE (Or.inr (by intro e; simp [Value.ownBlock] at e; omega))
      refine ⟨⟨v9, ?_⟩, ?_, ?_, ?_⟩
      · rw [← hpl, ← hdl, ← List.drop_drop]
        exact hv11
      · rw [← hpl]
        exact hp2.mono (by omega)
      · rw [← hpl, ← hdl]
        exact ⟨ha2.1, ha2.2.imp id fun ⟨g, cap, cur, a, b, c⟩ => ⟨g, cap, cur, a, by omega, c⟩⟩
      · exact grown_trans (grown_trans (grown_trans (unhide HG3) (grown_weak (unhide HGA) _) (Or.inl rfl)) (unhide HR) (Or.inr ⟨_, rfl, by omega⟩)) GE (Or.inr ⟨_, rfl, Nat.le_refl _⟩)
end Go.Proofs.YthlincikgdblfaaGreat

namespace Go.Proofs.YthlincikgdblfaaGreat
set_option linter.unusedVariables false
namespace Rot

/-! Counting below n -/
theorem count_lt (n : Nat) (p q : Nat → Bool) (h : ∀ k, k < n → p k = true → q k = true) (j : Nat) (hj : j < n) (hp : p j = false) (hq : q j = true) : (List.range n).countP p < (List.range n).countP q := by
  induction n with
  | zero => omega
  | succ n ih =>
    rw [List.range_succ, List.countP_append, List.countP_append]
    simp only [List.countP_cons, List.countP_nil]
    by_cases hjn : j = n
    · subst hjn
      have : (List.range j).countP p ≤ (List.range j).countP q := List.countP_mono_left fun k hk => h k (by have := List.mem_range.1 hk; omega)
      rw [hp, hq]
      simp
      omega
    · have := ih (fun k hk => h k (by omega)) (by omega)
      have h1 := h n (by omega)
      by_cases hpn : p n = true
      · rw [h1 hpn, hpn]; simp; omega
      · simp only [Bool.not_eq_true] at hpn
        rw [hpn]
        simp
        split <;> omega
theorem count_range (n m : Nat) (hm : m ≤ n) : (List.range n).countP (fun k => decide (k < m)) = m := by
  induction n with
  | zero => simp at hm; subst hm; rfl
  | succ n ih =>
    rw [List.range_succ, List.countP_append]
    simp only [List.countP_cons, List.countP_nil]
    by_cases h : m = n + 1
    · subst h
      have : (List.range n).countP (fun k => decide (k < n + 1)) = n := by
        rw [List.countP_eq_length.2]
        · simp
        · intro a ha
          have := List.mem_range.1 ha
          simp; omega
      rw [this]
      simp
    · rw [ih (by omega)]
      have : ¬ n < m := by omega
      simp [this]
theorem nodup_len : ∀ (n : Nat) (l : List Nat), l.Nodup → (∀ x ∈ l, x < n) → l.length ≤ n
  | 0, l, _, h => by
    cases l with
    | nil => simp
    | cons a l => exact absurd (h a (by simp)) (Nat.not_lt_zero _)
  | n + 1, l, hd, h => by
    by_cases hn : n ∈ l
    · have h1 := nodup_len n (l.erase n) (hd.erase n) (fun x hx => by
        have hx2 := (hd.mem_erase_iff).1 hx
        have := h x hx2.2
        omega)
      rw [List.length_erase_of_mem hn] at h1
      omega
    · have h1 := nodup_len n l hd (fun x hx => by
        have := h x hx
        have : x ≠ n := fun e => hn (e ▸ hx)
        omega)
      omega
theorem nodup_full (n : Nat) (l : List Nat) (hd : l.Nodup) (h : ∀ x ∈ l, x < n) (hl : l.length = n) : l.Perm (List.range n) := by
  rw [List.perm_ext_iff_of_nodup hd List.nodup_range]
  intro x
  constructor
  · intro hx; exact List.mem_range.2 (h x hx)
  · intro hx
    have hx := List.mem_range.1 hx
    by_cases hm : x ∈ l
    · exact hm
    · have := nodup_len n (x :: l) (List.nodup_cons.2 ⟨hm, hd⟩) (fun y hy => by
        rcases List.mem_cons.1 hy with rfl | hy
        · exact hx
        · exact h y hy)
      simp at this
      omega

/-! The order of a column's places: by byte, and by place -/
def at' (col : List UInt8) (k : Nat) : UInt8 := (col[k]?).getD 0
def ahead (col : List UInt8) (k j : Nat) : Bool := decide (at' col k < at' col j) || (at' col k == at' col j && decide (k < j))
theorem ahead_irrefl (col : List UInt8) (j : Nat) : ahead col j j = false := by
  unfold ahead
  simp
theorem ahead_trans {col : List UInt8} {i j k : Nat} (h1 : ahead col i j = true) (h2 : ahead col j k = true) : ahead col i k = true := by
  unfold ahead at *
  simp only [Bool.or_eq_true, decide_eq_true_eq, Bool.and_eq_true, beq_iff_eq] at *
  rcases h1 with h1 | ⟨h1, h1'⟩ <;> rcases h2 with h2 | ⟨h2, h2'⟩
  · left; rw [UInt8.lt_iff_toNat_lt] at *; omega
  · left; rw [← h2]; exact h1
  · left; rw [h1]; exact h2
  · right; exact ⟨h1.trans h2, by omega⟩
theorem ahead_total (col : List UInt8) {i j : Nat} (h : i ≠ j) : ahead col i j = true ∨ ahead col j i = true := by
  unfold ahead
  simp only [Bool.or_eq_true, decide_eq_true_eq, Bool.and_eq_true, beq_iff_eq]
  by_cases h1 : at' col i < at' col j
  · left; left; exact h1
  by_cases h2 : at' col j < at' col i
  · right; left; exact h2
  have e : at' col i = at' col j := by
    apply UInt8.toNat_inj.1
    rw [UInt8.lt_iff_toNat_lt] at h1 h2
    omega
  by_cases h3 : i < j
  · left; right; exact ⟨e, h3⟩
  · right; right; exact ⟨e.symm, by omega⟩
/-- How many places come ahead of place j. -/
def lower (col : List UInt8) (j : Nat) : Nat := (List.range col.length).countP fun k => ahead col k j
theorem lower_lt {col : List UInt8} {i j : Nat} (hi : i < col.length) (h : ahead col i j = true) : lower col i < lower col j :=
  count_lt _ _ _ (fun k _ hk => ahead_trans hk h) i hi (ahead_irrefl col i) h
theorem lower_bound {col : List UInt8} {j : Nat} (hj : j < col.length) : lower col j < col.length := by
  have := count_lt col.length (fun k => ahead col k j) (fun _ => true) (fun _ _ _ => rfl) j hj (ahead_irrefl col j) rfl
  have e : (List.range col.length).countP (fun _ => true) = col.length := by rw [List.countP_eq_length.2 (fun _ _ => rfl)]; simp
  rw [e] at this
  exact this
theorem lower_inj {col : List UInt8} {i j : Nat} (hi : i < col.length) (hj : j < col.length) (h : lower col i = lower col j) : i = j := by
  by_cases e : i = j
  · exact e
  · rcases ahead_total col e with h1 | h1
    · have := lower_lt hi h1; omega
    · have := lower_lt hj h1; omega
theorem ahead_of_lower {col : List UInt8} {i j : Nat} (hi : i < col.length) (hj : j < col.length) (h : lower col i < lower col j) : ahead col i j = true := by
  have e : i ≠ j := by intro e; subst e; omega
  rcases ahead_total col e with h1 | h1
  · exact h1
  · have := lower_lt hj h1; omega

/-- The place of a row (that is not the last row) in the column. -/
def placeOf (last i : Nat) : Nat := if last < i then i - 1 else i
/-- The row whose end is a byte longer. -/
def back (col : List UInt8) (last i : Nat) : Nat := 1 + lower col (placeOf last i)
/-- Behind k steps back. -/
def walk (col : List UInt8) (last : Nat) : Nat → Nat
  | 0 => 0
  | k + 1 => back col last (walk col last k)
theorem placeOf_lt {n last i : Nat} (hl : last ≤ n) (hi : i ≤ n) (h : i ≠ last) : placeOf last i < n := by
  unfold placeOf; split <;> omega
theorem placeOf_inj {last i j : Nat} (hi : i ≠ last) (hj : j ≠ last) (h : placeOf last i = placeOf last j) : i = j := by
  unfold placeOf at h; split at h <;> split at h <;> omega
theorem placeOf_lt_iff {last i j : Nat} (hi : i ≠ last) (hj : j ≠ last) : placeOf last i < placeOf last j ↔ i < j := by
  unfold placeOf; split <;> split <;> omega
end Rot
end Go.Proofs.YthlincikgdblfaaGreat

namespace Go.Proofs.YthlincikgdblfaaGreat
set_option linter.unusedVariables false
namespace Rot

/-- The steps back from the empty end go through every row, and end at the last row. -/
structure Whole (col : List UInt8) (last : Nat) : Prop where
  le : last ≤ col.length
  on : ∀ k, k < col.length → walk col last k ≠ last
  fin : walk col last col.length = last

/-- What the first k steps spell. -/
def spell (col : List UInt8) (last : Nat) : Nat → List UInt8
  | 0 => []
  | k + 1 => at' col (placeOf last (walk col last k)) :: spell col last k
theorem spell_len (col : List UInt8) (last k : Nat) : (spell col last k).length = k := by
  induction k with
  | zero => rfl
  | succ k ih => simp [spell, ih]
theorem spell_drop (col : List UInt8) (last m k : Nat) (h : k ≤ m) : (spell col last m).drop (m - k) = spell col last k := by
  induction m with
  | zero => have : k = 0 := by omega
            subst this; rfl
  | succ m ih =>
    by_cases e : k = m + 1
    · subst e; simp
    · have : m + 1 - k = (m - k) + 1 := by omega
      rw [this]
      simp only [spell, List.drop_succ_cons]
      exact ih (by omega)


theorem walk_le {col : List UInt8} {last : Nat} (H : Whole col last) : ∀ k, k ≤ col.length → walk col last k ≤ col.length
  | 0, _ => Nat.zero_le _
  | k + 1, h => by
    have h1 := walk_le H k (by omega)
    have h2 := lower_bound (placeOf_lt H.le h1 (H.on k (by omega)))
    show 1 + lower col (placeOf last (walk col last k)) ≤ col.length
    omega
theorem walk_place {col : List UInt8} {last : Nat} (H : Whole col last) {k : Nat} (hk : k < col.length) : placeOf last (walk col last k) < col.length := placeOf_lt H.le (walk_le H k (by omega)) (H.on k hk)
theorem walk_inj {col : List UInt8} {last : Nat} (H : Whole col last) : ∀ a b, a ≤ col.length → b ≤ col.length → walk col last a = walk col last b → a = b
  | 0, 0, _, _, _ => rfl
  | 0, b + 1, _, _, h => by simp only [walk, back] at h; omega
  | a + 1, 0, _, _, h => by simp only [walk, back] at h; omega
  | a + 1, b + 1, ha, hb, h => by
    have h1 : lower col (placeOf last (walk col last a)) = lower col (placeOf last (walk col last b)) := by simp only [walk, back] at h; omega
    have h2 := lower_inj (walk_place H (by omega)) (walk_place H (by omega)) h1
    have h3 := placeOf_inj (H.on a (by omega)) (H.on b (by omega)) h2
    rw [walk_inj H a b (by omega) (by omega) h3]
theorem spell_less {col : List UInt8} {last : Nat} (H : Whole col last) : ∀ a b, a ≤ col.length → b ≤ col.length → walk col last a < walk col last b → less (spell col last a) (spell col last b) = true
  | _, 0, _, _, h => by simp only [walk] at h; omega
  | 0, b + 1, _, _, _ => rfl
  | a + 1, b + 1, ha, hb, h => by
    have h1 : lower col (placeOf last (walk col last a)) < lower col (placeOf last (walk col last b)) := by simp only [walk, back] at h; omega
    have h2 := ahead_of_lower (walk_place H (by omega)) (walk_place H (by omega)) h1
    unfold ahead at h2
    simp only [Bool.or_eq_true, decide_eq_true_eq, Bool.and_eq_true, beq_iff_eq] at h2
    simp only [spell, less]
    rcases h2 with h2 | ⟨h2, h3⟩
    · rw [if_pos h2]
    · have h4 := (placeOf_lt_iff (H.on a (by omega)) (H.on b (by omega))).1 h3
      have ih := spell_less H a b (by omega) (by omega) h4
      rw [h2]
      have : ¬ at' col (placeOf last (walk col last b)) < at' col (placeOf last (walk col last b)) := by rw [UInt8.lt_iff_toNat_lt]; omega
      rw [if_neg this, if_neg this]
      exact ih

/-- The rows, as they are met. -/
theorem met_perm {col : List UInt8} {last : Nat} (H : Whole col last) : ((List.range (col.length + 1)).map (walk col last)).Perm (List.range (col.length + 1)) := by
  refine nodup_full _ _ ?_ ?_ (by simp)
  · rw [List.nodup_iff_pairwise_ne, List.pairwise_map]
    refine List.Pairwise.imp_of_mem ?_ List.nodup_range
    intro a b ha hb hab h
    exact hab (walk_inj H a b (by have := List.mem_range.1 ha; omega) (by have := List.mem_range.1 hb; omega) h)
  · intro x hx
    obtain ⟨k, hk, rfl⟩ := List.mem_map.1 hx
    have := walk_le H k (by have := List.mem_range.1 hk; omega)
    omega
/-- In how many steps a row is met. -/
def metAt (col : List UInt8) (last i : Nat) : Nat := ((List.range (col.length + 1)).map (walk col last)).idxOf i
theorem metAt_le {col : List UInt8} {last : Nat} (H : Whole col last) {i : Nat} (hi : i ≤ col.length) : metAt col last i ≤ col.length ∧ walk col last (metAt col last i) = i := by
  have hm : i ∈ (List.range (col.length + 1)).map (walk col last) := (met_perm H).mem_iff.2 (List.mem_range.2 (by omega))
  have h1 := List.idxOf_lt_length_of_mem hm
  have h2 := List.getElem_idxOf h1
  rw [List.getElem_map, List.getElem_range] at h2
  simp only [List.length_map, List.length_range] at h1
  exact ⟨by unfold metAt; omega, h2⟩
theorem metAt_walk {col : List UInt8} {last : Nat} (H : Whole col last) {k : Nat} (hk : k ≤ col.length) : metAt col last (walk col last k) = k := by
  have h := metAt_le H (walk_le H k hk)
  exact walk_inj H _ _ h.1 hk h.2
/-- Where each row is at. -/
def rowsBack (col : List UInt8) (last : Nat) : List Nat := (List.range (col.length + 1)).map fun i => col.length - metAt col last i
theorem rowsBack_len {col : List UInt8} {last : Nat} : (rowsBack col last).length = col.length + 1 := by simp [rowsBack]
theorem rowsBack_get {col : List UInt8} {last : Nat} {i : Nat} (hi : i < (rowsBack col last).length) : (rowsBack col last)[i]'hi = col.length - metAt col last i := by simp [rowsBack]
theorem rowsBack_end {col : List UInt8} {last : Nat} (H : Whole col last) {i : Nat} (hi : i ≤ col.length) : (spell col last col.length).drop (col.length - metAt col last i) = spell col last (metAt col last i) := spell_drop _ _ _ _ (metAt_le H hi).1
theorem rowsBack_is {col : List UInt8} {last : Nat} (H : Whole col last) : IsRows (spell col last col.length) (rowsBack col last) := by
  refine ⟨?_, ?_⟩
  · rw [spell_len]
    refine nodup_full _ _ ?_ ?_ rowsBack_len
    · unfold rowsBack
      rw [List.nodup_iff_pairwise_ne, List.pairwise_map]
      refine List.Pairwise.imp_of_mem ?_ List.nodup_range
      intro a b ha hb hab h
      have ha := List.mem_range.1 ha
      have hb := List.mem_range.1 hb
      have h1 := metAt_le H (i := a) (by omega)
      have h2 := metAt_le H (i := b) (by omega)
      have : metAt col last a = metAt col last b := by omega
      apply hab
      rw [← h1.2, ← h2.2, this]
    · intro x hx
      obtain ⟨k, hk, rfl⟩ := List.mem_map.1 hx
      omega
  · rw [List.pairwise_iff_getElem]
    intro i j hi hj hij
    rw [rowsBack_get, rowsBack_get]
    rw [rowsBack_len] at hi hj
    rw [rowsBack_end H (by omega), rowsBack_end H (by omega)]
    have h1 := metAt_le H (i := i) (by omega)
    have h2 := metAt_le H (i := j) (by omega)
    exact spell_less H _ _ h1.1 h2.1 (by rw [h1.2, h2.2]; exact hij)
theorem rowsBack_last {col : List UInt8} {last : Nat} (H : Whole col last) : (rowsBack col last).idxOf 0 = last := by
  have hl := H.le
  have h1 : metAt col last last = col.length := by
    have := metAt_walk H (k := col.length) (Nat.le_refl _)
    rw [H.fin] at this
    exact this
  have h2 : (rowsBack col last)[last]'(by rw [rowsBack_len]; omega) = 0 := by rw [rowsBack_get, h1]; omega
  have := (rows_nodup (rowsBack_is H)).idxOf_getElem last (by rw [rowsBack_len]; omega)
  rw [h2] at this
  exact this
theorem getD_drop (t : List UInt8) (m : Nat) (c : UInt8) (s : List UInt8) (h : t.drop m = c :: s) : (t[m]?).getD 0 = c := by
  have : t[m]? = (t.drop m)[0]? := by simp
  rw [this, h]
  rfl
theorem spell_at {col : List UInt8} {last : Nat} {k : Nat} (hk : k < col.length) : ((spell col last col.length)[col.length - k - 1]?).getD 0 = at' col (placeOf last (walk col last k)) := by
  refine getD_drop _ _ _ (spell col last k) ?_
  rw [show col.length - k - 1 = col.length - (k + 1) by omega, spell_drop _ _ _ _ (by omega)]
  rfl
/-- ONLY FILES: the column and the last row are those of the text that the steps spell. -/
theorem rowsBack_column {col : List UInt8} {last : Nat} (H : Whole col last) : columnOf (spell col last col.length) (rowsBack col last) = col := by
  have hR := rowsBack_is H
  unfold columnOf
  rw [filter_erase hR, rowsBack_last H]
  have hl := H.le
  apply List.ext_getElem
  · rw [List.length_map, List.length_eraseIdx]
    rw [rowsBack_len]
    rw [if_pos (by omega)]
    omega
  · intro j h1 h2
    rw [List.getElem_map]
    have key : ∀ i (hi : i < (rowsBack col last).length), i ≠ last → placeOf last i = j → ((spell col last col.length)[(rowsBack col last)[i]'hi - 1]?).getD 0 = col[j] := by
      intro i hi hne hp
      rw [rowsBack_get]
      have hi2 : i ≤ col.length := by rw [rowsBack_len] at hi; omega
      have hm := metAt_le H hi2
      have hlt : metAt col last i < col.length := by
        rcases Nat.lt_or_ge (metAt col last i) col.length with h | h
        · exact h
        · exfalso
          have : metAt col last i = col.length := by omega
          rw [this, H.fin] at hm
          exact hne hm.2.symm
      rw [spell_at hlt, hm.2, hp]
      unfold at'
      rw [List.getElem?_eq_getElem h2]
      rfl
    rw [List.getElem_eraseIdx]
    split
    · exact key j _ (by omega) (by unfold placeOf; rw [if_neg (by omega)])
    · exact key (j + 1) _ (by omega) (by unfold placeOf; rw [if_pos (by omega)]; omega)
end Rot
end Go.Proofs.YthlincikgdblfaaGreat
