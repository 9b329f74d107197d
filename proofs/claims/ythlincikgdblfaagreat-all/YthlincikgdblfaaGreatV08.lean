import Derived.Test.YthlincikgdblfaaGreatV07
import Derived.OwnWalk
namespace Go.Proofs.YthlincikgdblfaaGreat
open Go.RowKit
set_option linter.unusedVariables false

/-- Which of n things a raw number speaks of. -/
def pickOf (c : Int) (n : Nat) : Nat := (if c < 0 then -(c + 1) else c).toNat % n
theorem kpick_any (c : Int) (n : Nat) (w : World) (h1 : -9223372036854775808 ≤ c) (h2 : c ≤ 9223372036854775807) (hn : 1 ≤ n) (hn2 : n ≤ 1000000) :
    Calls Tryz.prog 19 #[.int .i64 c, .int .i64 n] w fun e w' => e = .returned (.int .i64 (pickOf c n : Int)) ∧ w' = w := by
  have hz : ((n : Int) == 0) = false := by simp; omega
  by_cases hc : c < 0
  · go_enter Tryz.func19, Tryz.ntmps19
    go_wp2
    go_ret
    refine ⟨ret_int ?_, rfl⟩
    unfold pickOf
    rw [if_pos hc, Int.natCast_emod, Int.toNat_of_nonneg (by omega), ← Int.neg_tmod, Int.tmod_eq_emod_of_nonneg (by omega)]
  · go_enter Tryz.func19, Tryz.ntmps19
    go_wp2
    go_ret
    refine ⟨ret_int ?_, rfl⟩
    unfold pickOf
    rw [if_neg (by omega), Int.natCast_emod, Int.toNat_of_nonneg (by omega)]
theorem pick_lt (c : Int) (n : Nat) (hn : 1 ≤ n) : pickOf c n < n := Nat.mod_lt _ hn

/-- One of the four rates. -/
def rateOf (c : Int) : Nat := 2 ^ pickOf c 4
theorem rate_is (c : Int) : rateOf c = 1 ∨ rateOf c = 2 ∨ rateOf c = 4 ∨ rateOf c = 8 := by
  have h := pick_lt c 4 (by decide)
  unfold rateOf
  generalize pickOf c 4 = k at h
  match k, h with
  | 0, _ => simp
  | 1, _ => simp
  | 2, _ => simp
  | 3, _ => simp
theorem isRate_rateOf (c : Int) : isRate (rateOf c : Int) = true := by
  rcases rate_is c with h | h | h | h <;> rw [h] <;> rfl
theorem krate_any (c : Int) (w : World) (h1 : -9223372036854775808 ≤ c) (h2 : c ≤ 9223372036854775807) :
    Calls Tryz.prog 13 #[.int .i64 c] w fun e w' => e = .returned (.int .i64 (rateOf c : Int)) ∧ w' = w := by
  have hk := pick_lt c 4 (by decide)
  have hcon := fun W => kpick_any c 4 W h1 h2 (by decide) (by decide)
  unfold rateOf
  generalize pickOf c 4 = k at hk hcon
  have h4 : k = 0 ∨ k = 1 ∨ k = 2 ∨ k = 3 := by omega
  rcases h4 with rfl | rfl | rfl | rfl
  all_goals
    go_enter Tryz.func13, Tryz.ntmps13
    go_wp2_with fail
    refine (hcon _).mono ?_
    rintro e w1 ⟨rfl, hw⟩
    subst hw
    clear hcon
    go_wp2
    go_ret
    exact ⟨rfl, rfl⟩

/-- A text of at most 250 bytes. -/
def cutOf (s : ByteArray) : ByteArray := if 250 < s.size then s.extract 0 250 else s
theorem cut_size (s : ByteArray) : (cutOf s).size ≤ 250 := by
  unfold cutOf
  split
  · simp [ByteArray.size_extract]; omega
  · omega
theorem cut_any (s : ByteArray) (w : World) (hs : s.size ≤ maxLen) :
    Calls Tryz.prog 12 #[.string s] w fun e w' => e = .returned (.string (cutOf s)) ∧ w' = w := by
  unfold maxLen at hs
  unfold cutOf
  by_cases h : 250 < s.size
  · rw [if_pos h]
    go_enter Tryz.func12, Tryz.ntmps12
    go_wp2
    go_ret
    exact ⟨rfl, rfl⟩
  · rw [if_neg h]
    go_enter Tryz.func12, Tryz.ntmps12
    go_wp2
    go_ret
    exact ⟨rfl, rfl⟩

theorem built_any (s : ByteArray) (r : Nat) (w : World) (hs : s.size ≤ 250) (h : isRate r = true) :
    Calls Tryz.prog 14 #[.string s, .int .i64 r] w fun e w' => ∃ rows, Rot.IsRows s.data.toList rows ∧ e = .returned (.tuple #[.string ⟨(Rot.fileOf s.data.toList rows r).toArray⟩, .bool true]) ∧ Below w.heap.size w w' := by
  have hr : 1 ≤ r ∧ r ≤ 8 := by
    unfold isRate at h
    simp at h
    omega
  go_enter Tryz.func14, Tryz.ntmps14
  go_wp2_with fail
  refine (build_yes s r _ hs h).mono ?_
  rintro e w1 ⟨rows, hR, rfl, hB⟩
  have hl := (Rot.file_size hR r (by omega)).1
  have hsz := Rot.size_le s.data.toList.length r (by simpa using hs)
  have hsize : (⟨(Rot.fileOf s.data.toList rows r).toArray⟩ : ByteArray).size = (Rot.fileOf s.data.toList rows r).length := by simp [ByteArray.size]
  have hbig : 42 < (⟨(Rot.fileOf s.data.toList rows r).toArray⟩ : ByteArray).size := by omega
  have hsmall : (⟨(Rot.fileOf s.data.toList rows r).toArray⟩ : ByteArray).size ≤ 2000 := by omega
  have HR := hide hR
  have HB := hide hB
  have HX : Hid (∃ x : ByteArray, x = ⟨(Rot.fileOf s.data.toList rows r).toArray⟩) := ⟨_, rfl⟩
  generalize hx : (⟨(Rot.fileOf s.data.toList rows r).toArray⟩ : ByteArray) = x at hbig hsmall ⊢
  have HXX := hide hx
  have hdd : decide ((42 : Int) < (x.size : Int)) = true := by simp; omega
  clear hl hsz hsize hR hB HX hx
  go_wp2_with fail
  go_ret2
  refine ⟨rows, unhide HR, ?_, unhide HB⟩
  cases unhide HXX
  rfl
end Go.Proofs.YthlincikgdblfaaGreat

namespace Go.Proofs.YthlincikgdblfaaGreat
open Go.RowKit
set_option linter.unusedVariables false

/-- A string of bytes. -/
def Sb (l : List UInt8) : ByteArray := ⟨l.toArray⟩
theorem Sb_append (a b : List UInt8) : Sb a ++ Sb b = Sb (a ++ b) := by
  apply ByteArray.ext
  simp [Sb]
theorem Sb_size (l : List UInt8) : (Sb l).size = l.length := by simp [Sb, ByteArray.size]
theorem Sb_le {l : List UInt8} {n : Nat} (h : l.length ≤ n) : (Sb l).size ≤ n := by rw [Sb_size]; exact h
theorem Sb_two (n : Nat) : (Sb (Rot.le16 n)).size ≤ 4 := by rw [Sb_size]; simp [Rot.le16]
theorem Sb_four (n : Nat) : (Sb (Rot.le32 n)).size ≤ 4 := by rw [Sb_size]; simp [Rot.le32]
theorem Sb_nil : (⟨#[]⟩ : ByteArray) = Sb [] := rfl
theorem Sb_of (s : ByteArray) : s = Sb s.data.toList := by
  apply ByteArray.ext
  simp [Sb]
theorem Sb_toList (l : List UInt8) : (Sb l).data.toList = l := by simp [Sb]

/-- A literal slice of bytes as a string. -/
theorem conv_lit (w : World) (l : List UInt8) (cs : Array Value) (hc : cs.toList = by8 l) (hl : l.length < 100) :
    (convert 45 9 (.slice (some ⟨w.heap.size, 0, none⟩) l.length l.length)).run Tryz.prog (w.alloc (.cells cs 5)) = .ok (.string (Sb l)) (w.alloc (.cells cs 5)) := by
  have hs : cs.size = l.length := by rw [← Array.length_toList, hc, by8_length]
  have := World.ownsRow_lit (base := 0) (e := 5) (size := 1) w cs l.length (Nat.zero_le _) (by unfold maxLen; omega) (by omega)
  rw [hc] at this
  exact conv_str (B := 0) this

theorem grown_alloc1 (w : World) (o : Obj) : w.grownBy (w.alloc o) none := World.grownBy_alloc w o none
set_option maxRecDepth 100000 in
theorem two_any (n : Nat) (w : World) (hn : n < 65536) :
    Calls Tryz.prog 71 #[.int .i64 n] w fun e w' => e = .returned (.string (Sb (Rot.le16 n))) ∧ w.grownBy w' none := by
  have hcv : ∀ w : World, (convert 45 9 (.slice (some ⟨w.heap.size, 0, none⟩) 2 2)).run Tryz.prog (w.alloc (.cells #[.int .u8 ((n : Int) % 256), .int .u8 ((n : Int) / 256)] 5)) = .ok (.string (Sb (Rot.le16 n))) (w.alloc (.cells #[.int .u8 ((n : Int) % 256), .int .u8 ((n : Int) / 256)] 5)) := fun w =>
    conv_lit w (Rot.le16 n) _ (by
      have e1 := byte_of n
      have e2 := byte_of (n / 256)
      have e3 : ((n : Int) / 256) = ((n / 256 : Nat) : Int) % 256 := by omega
      simp only [by8, Rot.le16, List.map_cons, List.map_nil]
      rw [e1, e3, e2]) (by simp [Rot.le16])
  go_enter Tryz.func71, Tryz.ntmps71
  go_wp2_with fail
  go_ret
  exact ⟨rfl, grown_alloc1 _ _⟩
set_option maxRecDepth 100000 in
theorem four_any (n : Nat) (w : World) (hn : n < 4294967296) :
    Calls Tryz.prog 72 #[.int .u32 n] w fun e w' => e = .returned (.string (Sb (Rot.le32 n))) ∧ w.grownBy w' none := by
  have hcv : ∀ w : World, (convert 45 9 (.slice (some ⟨w.heap.size, 0, none⟩) 4 4)).run Tryz.prog (w.alloc (.cells #[.int .u8 ((n : Int) % 256), .int .u8 ((n : Int) / 256 % 256), .int .u8 ((n : Int) / 65536 % 256), .int .u8 ((n : Int) / 16777216)] 5)) = .ok (.string (Sb (Rot.le32 n))) (w.alloc (.cells #[.int .u8 ((n : Int) % 256), .int .u8 ((n : Int) / 256 % 256), .int .u8 ((n : Int) / 65536 % 256), .int .u8 ((n : Int) / 16777216)] 5)) := fun w =>
    conv_lit w (Rot.le32 n) _ (by
      have e1 := byte_of n
      have e2 := byte_of (n / 256)
      have e3 := byte_of (n / 65536)
      have e4 := byte_of (n / 16777216)
      have f2 : ((n : Int) / 256 % 256) = ((n / 256 : Nat) : Int) % 256 := by omega
      have f3 : ((n : Int) / 65536 % 256) = ((n / 65536 : Nat) : Int) % 256 := by omega
      have f4 : ((n : Int) / 16777216) = ((n / 16777216 : Nat) : Int) % 256 := by omega
      simp only [by8, Rot.le32, List.map_cons, List.map_nil]
      rw [e1, f2, e2, f3, e3, f4, e4]) (by simp [Rot.le32])
  go_enter Tryz.func72, Tryz.ntmps72
  go_wp2_with fail
  go_ret
  exact ⟨rfl, grown_alloc1 _ _⟩

set_option maxHeartbeats 400000 in
theorem rsum_any (s : ByteArray) (w : World) (hs : s.size < 900000) :
    Calls Tryz.prog 73 #[.string s] w fun e w' => e = .returned (.int .u32 (Rot.sumOf s.data.toList)) ∧ w' = w := by
  go_enter Tryz.func73, Tryz.ntmps73
  go_wp2_with fail
  go_loop [3, 4] (fun t i => ∃ k : Nat, k ≤ s.size ∧ i = .int .i64 k ∧ t = .int .u32 (Rot.sumOf (s.data.toList.take k))) (fun _ i => s.size - (intOf i).toNat)
  case atStart => exact ⟨0, Nat.zero_le _, rfl, rfl⟩
  case round =>
    obtain ⟨k, hk, rfl, rfl⟩ := hrel
    have hl : s.data.toList.length = s.size := by simp
    by_cases hlt : k < s.size
    · have hbl := (s[k]'hlt).toNat_lt
      have hsl := sum_lt (s.data.toList.take k)
      have HS : Hid (Rot.sumOf (s.data.toList.take (k + 1)) = Rot.sumStep (Rot.sumOf (s.data.toList.take k)) (s[k]'hlt)) := sum_snoc s.data.toList k (by omega)
      clear hl
      go_wp2
      go_round
      case rel =>
        refine ⟨k + 1, by omega, by go_num, ?_⟩
        rw [HS.out]
        unfold Rot.sumStep
        exact num_eq (by omega)
      case measure => simp [intOf]; omega
    · have e : s.data.toList.take k = s.data.toList := List.take_of_length_le (by omega)
      have HE := hide e
      clear hl e
      go_wp2
      go_ret
      exact ⟨ret_int (by rw [unhide HE]), rfl⟩

theorem rrate_any (r : Int) (w : World) : Calls Tryz.prog 69 #[.int .i64 r] w fun e w' => e = .returned (.bool (isRate r)) ∧ w' = w := by
  unfold isRate
  by_cases h1 : r = 1
  · subst h1
    go_enter Tryz.func69, Tryz.ntmps69
    go_wp2
    go_ret
    exact ⟨rfl, rfl⟩
  have e1 : (r == 1) = false := by simp [h1]
  by_cases h2 : r = 2
  · subst h2
    go_enter Tryz.func69, Tryz.ntmps69
    go_wp2
    go_ret
    exact ⟨rfl, rfl⟩
  have e2 : (r == 2) = false := by simp [h2]
  by_cases h4 : r = 4
  · subst h4
    go_enter Tryz.func69, Tryz.ntmps69
    go_wp2
    go_ret
    exact ⟨rfl, rfl⟩
  have e4 : (r == 4) = false := by simp [h4]
  by_cases h8 : r = 8
  · subst h8
    go_enter Tryz.func69, Tryz.ntmps69
    go_wp2
    go_ret
    exact ⟨rfl, rfl⟩
  have e8 : (r == 8) = false := by simp [h8]
  go_enter Tryz.func69, Tryz.ntmps69
  go_wp2
  go_ret
  exact ⟨by simp [e1, e2, e4, e8], rfl⟩
end Go.Proofs.YthlincikgdblfaaGreat

namespace Go.Proofs.YthlincikgdblfaaGreat
set_option linter.unusedVariables false
namespace Rot
/-- How many bytes read number 'calls' gives, of n that are asked for (below 0: it fails). -/
def gives (sz : List Int) (calls : Nat) (n : Int) : Int := match sz[calls]? with
  | some z => if z < n then z else n
  | none => n
def asked (len at' : Nat) : Nat := min (len - at') 64
/-- A read: where the next one goes on, and how many have given nothing. -/
def readStep (len : Nat) (sz : List Int) (at' calls no : Nat) : Option (Nat × Nat) :=
  if gives sz calls (asked len at') < 0 then none
  else if gives sz calls (asked len at') = 0 then (if no + 1 = 8 then none else some (at', no + 1))
  else some (at' + (gives sz calls (asked len at')).toNat, 0)
/-- Reads one behind the other: was all read, and by how many? -/
inductive Reads (len : Nat) (sz : List Int) : Nat → Nat → Nat → Bool → Nat → Prop
  | done (at' calls no : Nat) (h : len ≤ at') : Reads len sz at' calls no true calls
  | fails (at' calls no : Nat) (h : at' < len) (e : readStep len sz at' calls no = none) : Reads len sz at' calls no false (calls + 1)
  | goes (at' calls no a n : Nat) (ok : Bool) (c : Nat) (h : at' < len) (e : readStep len sz at' calls no = some (a, n)) (r : Reads len sz a (calls + 1) n ok c) : Reads len sz at' calls no ok c
theorem Reads.same {len : Nat} {sz : List Int} {at' calls no : Nat} {ok ok' : Bool} {c c' : Nat} (h : Reads len sz at' calls no ok c) (h' : Reads len sz at' calls no ok' c') : ok = ok' ∧ c = c' := by
  induction h with
  | done a b n hl =>
    cases h' with
    | done => exact ⟨rfl, rfl⟩
    | fails _ _ _ h => omega
    | goes _ _ _ _ _ _ _ h => omega
  | fails a b n hl e =>
    cases h' with
    | done _ _ _ h => omega
    | fails => exact ⟨rfl, rfl⟩
    | goes _ _ _ _ _ _ _ _ e2 => rw [e] at e2; cases e2
  | goes a b n a2 n2 ok2 c2 hl e r ih =>
    cases h' with
    | done _ _ _ h => omega
    | fails _ _ _ _ e2 => rw [e] at e2; cases e2
    | goes _ _ _ _ _ _ _ _ e2 r2 =>
      rw [e] at e2
      cases e2
      exact ih r2
theorem asked_pos {len at' : Nat} (h : at' < len) : 1 ≤ asked len at' ∧ asked len at' ≤ 64 ∧ at' + asked len at' ≤ len := by unfold asked; omega
theorem gives_le (sz : List Int) (calls : Nat) (n : Int) : gives sz calls n ≤ n := by
  unfold gives
  split
  · split <;> omega
  · omega
end Rot
open Go.RowKit
/-- Integers that lie somewhere. -/
def Ints (w : World) (v : Value) (zs : List Int) : Prop := (∀ z ∈ zs, -9223372036854775808 ≤ z ∧ z ≤ 9223372036854775807) ∧ zs.length ≤ 9223372036854775807 ∧ ∃ a c, v = .slice a zs.length c ∧ (zs = [] ∨ ∃ b off, a = some ⟨b, off, none⟩ ∧ ∀ i (hi : i < zs.length), w.cell? ⟨b, off + i, none⟩ = some (.int .i64 (zs[i]'hi)))

/-- Behind some reads. -/
def RdV (len : Nat) (sz : List Int) (a c o : Value) : Prop := ∃ at' calls no : Nat, at' ≤ len ∧ no < 8 ∧ calls + 8 * (len - at') + (8 - no) ≤ 8 * len + 8 ∧ a = .int .i64 (at' : Int) ∧ c = .int .i64 (calls : Int) ∧ o = .int .i64 (no : Int) ∧ Hid (∀ ok k, Rot.Reads len sz at' calls no ok k → Rot.Reads len sz 0 0 0 ok k)
theorem RdV.mk {len : Nat} {sz : List Int} {a c o : Value} (at' calls no : Nat) (h1 : at' ≤ len) (h2 : no < 8) (h3 : calls + 8 * (len - at') + (8 - no) ≤ 8 * len + 8) (h4 : a = .int .i64 (at' : Int)) (h5 : c = .int .i64 (calls : Int)) (h6 : o = .int .i64 (no : Int)) (h7 : ∀ ok k, Rot.Reads len sz at' calls no ok k → Rot.Reads len sz 0 0 0 ok k) : RdV len sz a c o := ⟨at', calls, no, h1, h2, h3, h4, h5, h6, h7⟩

set_option maxRecDepth 100000 in
set_option maxHeartbeats 2000000 in
theorem rread_any (s : ByteArray) (v : Value) (sz : List Int) (w : World) (hs : s.size ≤ 4000) (hI : Ints w v sz) :
    Calls Tryz.prog 108 #[.string s, v] w fun e w' => ((∃ k, e = .returned (.tuple #[.string s, .int .i64 (k : Nat), .int .i64 0]) ∧ Rot.Reads s.size sz 0 0 0 true k) ∨ (∃ k, e = .returned (.tuple #[.string ⟨#[]⟩, .int .i64 (k : Nat), .int .i64 3]) ∧ Rot.Reads s.size sz 0 0 0 false k)) ∧ w' = w := by
  obtain ⟨hz, hzl, av, cv, rfl, hcells⟩ := hI
  have HZ := hide hz
  have HC := hide hcells
  clear hz hcells
  go_enter Tryz.func108, Tryz.ntmps108
  go_wp2_with fail
  go_loop [7, 8, 9] (fun a c o => RdV s.size sz a c o) (fun a _ o => 8 * (s.size - (intOf a).toNat) + (8 - (intOf o).toNat))
  case atStart => exact RdV.mk 0 0 0 (Nat.zero_le _) (by omega) (by omega) rfl rfl rfl (fun _ _ h => h)
  case round =>
    obtain ⟨at', calls, no, hat, hno, hm, rfl, rfl, rfl, HR⟩ := hrel
    by_cases hlt : at' < s.size
    · obtain ⟨A, hA⟩ : ∃ A : Nat, Rot.asked s.size at' = A := ⟨_, rfl⟩
      have hAp := Rot.asked_pos hlt
      rw [hA] at hAp
      obtain ⟨hA1, hA2, hA3⟩ := hAp
      by_cases h64 : 64 < s.size - at'
      · have d64 : decide (64 < (s.size : Int) - (at' : Int)) = true := by simp; omega
        have eA : A = 64 := by rw [← hA]; unfold Rot.asked; omega
        subst eA
        by_cases hcz : calls < sz.length
        · have hget : sz[calls]? = some (sz[calls]'hcz) := List.getElem?_eq_getElem hcz
          have hzb := unhide HZ _ (List.getElem_mem hcz)
          rcases unhide HC with hnil | ⟨b, off, rfl, hcell⟩
          · rw [hnil] at hcz; simp at hcz
          have hck := hcell calls hcz
          clear hcell
          have dc : decide ((calls : Int) < (sz.length : Int)) = true := by simp; omega
          generalize sz[calls]'hcz = z at hget hzb hck
          obtain ⟨hzb1, hzb2⟩ := hzb
          by_cases hzA : z < 64
          · have dzA : decide (z < 64) = true := by simpa using hzA
            have hG : Rot.gives sz calls (Rot.asked s.size at' : Int) = z := by
              unfold Rot.gives
              rw [hget, hA]
              show (if z < (64 : Int) then z else 64) = z
              rw [if_pos hzA]
            by_cases hz0 : z < 0
            · have hst : Rot.readStep s.size sz at' calls no = none := by
                unfold Rot.readStep
                rw [hG, if_pos hz0]
              have dz : decide (z < 0) = true := by simpa using hz0
              clear hG
              have HF : Hid (Rot.Reads s.size sz 0 0 0 false (calls + 1)) := unhide HR _ _ (Rot.Reads.fails _ _ _ hlt hst)
              go_wp2_with fail
              go_ret3
              exact ⟨Or.inr ⟨calls + 1, by simp, unhide HF⟩, rfl⟩
            have dz : decide (z < 0) = false := by simpa using hz0
            by_cases hze : z = 0
            · subst hze
              by_cases hn8 : no + 1 = 8
              · have hst : Rot.readStep s.size sz at' calls no = none := by
                  unfold Rot.readStep
                  rw [hG, if_neg (by omega), if_pos rfl, if_pos hn8]
                have dn : (((no : Int) + 1) == 8) = true := by simp; omega
                clear hG
                have HF : Hid (Rot.Reads s.size sz 0 0 0 false (calls + 1)) := unhide HR _ _ (Rot.Reads.fails _ _ _ hlt hst)
                go_wp2_with fail
                go_ret3
                exact ⟨Or.inr ⟨calls + 1, by simp, unhide HF⟩, rfl⟩
              · have hst : Rot.readStep s.size sz at' calls no = some (at', no + 1) := by
                  unfold Rot.readStep
                  rw [hG, if_neg (by omega), if_pos rfl, if_neg hn8]
                have dn : (((no : Int) + 1) == 8) = false := by simp; omega
                clear hG
                have HN : Hid (∀ ok k, Rot.Reads s.size sz at' (calls + 1) (no + 1) ok k → Rot.Reads s.size sz 0 0 0 ok k) := fun ok k h => unhide HR ok k (Rot.Reads.goes _ _ _ _ _ _ _ hlt hst h)
                go_wp2_with fail
                go_round
                case rel => exact RdV.mk at' (calls + 1) (no + 1) (by omega) (by omega) (by omega) (by go_num) (by go_num) (by go_num) (unhide HN)
                case measure => simp [intOf]; omega
            · obtain ⟨q, rfl⟩ : ∃ q : Nat, z = (q : Int) := ⟨z.toNat, by omega⟩
              have hst : Rot.readStep s.size sz at' calls no = some (at' + q, 0) := by
                unfold Rot.readStep
                rw [hG, if_neg (by omega), if_neg (by omega)]
                simp
              clear hG
              have HN : Hid (∀ ok k, Rot.Reads s.size sz (at' + q) (calls + 1) 0 ok k → Rot.Reads s.size sz 0 0 0 ok k) := fun ok k h => unhide HR ok k (Rot.Reads.goes _ _ _ _ _ _ _ hlt hst h)
              go_wp2_with fail
              go_round
              case rel => exact RdV.mk (at' + q) (calls + 1) 0 (by omega) (by omega) (by omega) (by go_num) (by go_num) (by go_num) (unhide HN)
              case measure => simp [intOf]; omega
          · have dzA : decide (z < 64) = false := by simpa using hzA
            have hG : Rot.gives sz calls (Rot.asked s.size at' : Int) = 64 := by
              unfold Rot.gives
              rw [hget, hA]
              show (if z < (64 : Int) then z else 64) = 64
              rw [if_neg hzA]
            have hst : Rot.readStep s.size sz at' calls no = some (at' + 64, 0) := by
              unfold Rot.readStep
              rw [hG, if_neg (by omega), if_neg (by omega)]
              simp
            clear hG
            have HN : Hid (∀ ok k, Rot.Reads s.size sz (at' + 64) (calls + 1) 0 ok k → Rot.Reads s.size sz 0 0 0 ok k) := fun ok k h => unhide HR ok k (Rot.Reads.goes _ _ _ _ _ _ _ hlt hst h)
            go_wp2_with fail
            go_round
            case rel => exact RdV.mk (at' + 64) (calls + 1) 0 (by omega) (by omega) (by omega) (by go_num) (by go_num) (by go_num) (unhide HN)
            case measure => simp [intOf]; omega
        · have dc : decide ((calls : Int) < (sz.length : Int)) = false := by simp; omega
          have hG : Rot.gives sz calls (Rot.asked s.size at' : Int) = 64 := by
            unfold Rot.gives
            rw [List.getElem?_eq_none (by omega), hA]; rfl
          have hst : Rot.readStep s.size sz at' calls no = some (at' + 64, 0) := by
            unfold Rot.readStep
            rw [hG, if_neg (by omega), if_neg (by omega)]
            simp
          clear hG
          have HN : Hid (∀ ok k, Rot.Reads s.size sz (at' + 64) (calls + 1) 0 ok k → Rot.Reads s.size sz 0 0 0 ok k) := fun ok k h => unhide HR ok k (Rot.Reads.goes _ _ _ _ _ _ _ hlt hst h)
          go_wp2_with fail
          go_round
          case rel => exact RdV.mk (at' + 64) (calls + 1) 0 (by omega) (by omega) (by omega) (by go_num) (by go_num) (by go_num) (unhide HN)
          case measure => simp [intOf]; omega
      · have d64 : decide (64 < (s.size : Int) - (at' : Int)) = false := by simp; omega
        have eA : (s.size : Int) - (at' : Int) = (A : Int) := by rw [← hA]; unfold Rot.asked; omega
        by_cases hcz : calls < sz.length
        · have hget : sz[calls]? = some (sz[calls]'hcz) := List.getElem?_eq_getElem hcz
          have hzb := unhide HZ _ (List.getElem_mem hcz)
          rcases unhide HC with hnil | ⟨b, off, rfl, hcell⟩
          · rw [hnil] at hcz; simp at hcz
          have hck := hcell calls hcz
          clear hcell
          have dc : decide ((calls : Int) < (sz.length : Int)) = true := by simp; omega
          generalize sz[calls]'hcz = z at hget hzb hck
          obtain ⟨hzb1, hzb2⟩ := hzb
          by_cases hzA : z < (A : Int)
          · have dzA : decide (z < (A : Int)) = true := by simpa using hzA
            have hG : Rot.gives sz calls (Rot.asked s.size at' : Int) = z := by
              unfold Rot.gives
              rw [hget, hA]
              show (if z < (A : Int) then z else (A : Int)) = z
              rw [if_pos hzA]
            by_cases hz0 : z < 0
            · have hst : Rot.readStep s.size sz at' calls no = none := by
                unfold Rot.readStep
                rw [hG, if_pos hz0]
              have dz : decide (z < 0) = true := by simpa using hz0
              clear hG
              have HF : Hid (Rot.Reads s.size sz 0 0 0 false (calls + 1)) := unhide HR _ _ (Rot.Reads.fails _ _ _ hlt hst)
              go_wp2_with fail
              go_ret3
              exact ⟨Or.inr ⟨calls + 1, by simp, unhide HF⟩, rfl⟩
            have dz : decide (z < 0) = false := by simpa using hz0
            by_cases hze : z = 0
            · subst hze
              by_cases hn8 : no + 1 = 8
              · have hst : Rot.readStep s.size sz at' calls no = none := by
                  unfold Rot.readStep
                  rw [hG, if_neg (by omega), if_pos rfl, if_pos hn8]
                have dn : (((no : Int) + 1) == 8) = true := by simp; omega
                clear hG
                have HF : Hid (Rot.Reads s.size sz 0 0 0 false (calls + 1)) := unhide HR _ _ (Rot.Reads.fails _ _ _ hlt hst)
                go_wp2_with fail
                go_ret3
                exact ⟨Or.inr ⟨calls + 1, by simp, unhide HF⟩, rfl⟩
              · have hst : Rot.readStep s.size sz at' calls no = some (at', no + 1) := by
                  unfold Rot.readStep
                  rw [hG, if_neg (by omega), if_pos rfl, if_neg hn8]
                have dn : (((no : Int) + 1) == 8) = false := by simp; omega
                clear hG
                have HN : Hid (∀ ok k, Rot.Reads s.size sz at' (calls + 1) (no + 1) ok k → Rot.Reads s.size sz 0 0 0 ok k) := fun ok k h => unhide HR ok k (Rot.Reads.goes _ _ _ _ _ _ _ hlt hst h)
                go_wp2_with fail
                go_round
                case rel => exact RdV.mk at' (calls + 1) (no + 1) (by omega) (by omega) (by omega) (by go_num) (by go_num) (by go_num) (unhide HN)
                case measure => simp [intOf]; omega
            · obtain ⟨q, rfl⟩ : ∃ q : Nat, z = (q : Int) := ⟨z.toNat, by omega⟩
              have hst : Rot.readStep s.size sz at' calls no = some (at' + q, 0) := by
                unfold Rot.readStep
                rw [hG, if_neg (by omega), if_neg (by omega)]
                simp
              clear hG
              have HN : Hid (∀ ok k, Rot.Reads s.size sz (at' + q) (calls + 1) 0 ok k → Rot.Reads s.size sz 0 0 0 ok k) := fun ok k h => unhide HR ok k (Rot.Reads.goes _ _ _ _ _ _ _ hlt hst h)
              go_wp2_with fail
              go_round
              case rel => exact RdV.mk (at' + q) (calls + 1) 0 (by omega) (by omega) (by omega) (by go_num) (by go_num) (by go_num) (unhide HN)
              case measure => simp [intOf]; omega
          · have dzA : decide (z < (A : Int)) = false := by simpa using hzA
            have hG : Rot.gives sz calls (Rot.asked s.size at' : Int) = (A : Int) := by
              unfold Rot.gives
              rw [hget, hA]
              show (if z < (A : Int) then z else (A : Int)) = (A : Int)
              rw [if_neg hzA]
            have hst : Rot.readStep s.size sz at' calls no = some (at' + A, 0) := by
              unfold Rot.readStep
              rw [hG, if_neg (by omega), if_neg (by omega)]
              simp
            clear hG
            have HN : Hid (∀ ok k, Rot.Reads s.size sz (at' + A) (calls + 1) 0 ok k → Rot.Reads s.size sz 0 0 0 ok k) := fun ok k h => unhide HR ok k (Rot.Reads.goes _ _ _ _ _ _ _ hlt hst h)
            go_wp2_with fail
            go_round
            case rel => exact RdV.mk (at' + A) (calls + 1) 0 (by omega) (by omega) (by omega) (by go_num) (by go_num) (by go_num) (unhide HN)
            case measure => simp [intOf]; omega
        · have dc : decide ((calls : Int) < (sz.length : Int)) = false := by simp; omega
          have hG : Rot.gives sz calls (Rot.asked s.size at' : Int) = (A : Int) := by
            unfold Rot.gives
            rw [List.getElem?_eq_none (by omega), hA]
          have hst : Rot.readStep s.size sz at' calls no = some (at' + A, 0) := by
            unfold Rot.readStep
            rw [hG, if_neg (by omega), if_neg (by omega)]
            simp
          clear hG
          have HN : Hid (∀ ok k, Rot.Reads s.size sz (at' + A) (calls + 1) 0 ok k → Rot.Reads s.size sz 0 0 0 ok k) := fun ok k h => unhide HR ok k (Rot.Reads.goes _ _ _ _ _ _ _ hlt hst h)
          go_wp2_with fail
          go_round
          case rel => exact RdV.mk (at' + A) (calls + 1) 0 (by omega) (by omega) (by omega) (by go_num) (by go_num) (by go_num) (unhide HN)
          case measure => simp [intOf]; omega
    · have HF : Hid (Rot.Reads s.size sz 0 0 0 true calls) := unhide HR _ _ (Rot.Reads.done _ _ _ (by omega))
      go_wp2_with fail
      go_ret3
      exact ⟨Or.inl ⟨calls, rfl, unhide HF⟩, rfl⟩
end Go.Proofs.YthlincikgdblfaaGreat

namespace Go.Proofs.YthlincikgdblfaaGreat
set_option linter.unusedVariables false
namespace Rot

/-- There is just one order of a text's ends. -/
theorem rows_unique {t : List UInt8} {a b : List Nat} (ha : IsRows t a) (hb : IsRows t b) : a = b := by
  refine List.Perm.eq_of_pairwise (le := fun p q => less (t.drop p) (t.drop q) = true) ?_ ha.order hb.order (ha.perm.trans hb.perm.symm)
  intro p q _ _ h1 h2
  have := less_trans _ _ _ h1 h2
  rw [less_irrefl] at this
  cases this

/-- Not behind. -/
def leq (a b : List UInt8) : Prop := less b a = false
theorem leq_antisymm (a b : List UInt8) (h1 : leq a b) (h2 : leq b a) : a = b := less_total _ _ h2 h1
theorem less_asymm (a b : List UInt8) (h : less a b = true) : less b a = false := by
  cases h2 : less b a with
  | false => rfl
  | true =>
    have := less_trans _ _ _ h h2
    rw [less_irrefl] at this
    cases this
theorem less_take : ∀ (k : Nat) (a b : List UInt8), less a b = true → leq (a.take k) (b.take k)
  | 0, a, b, _ => by simp [leq, less]
  | k + 1, [], b, _ => by cases b <;> simp [leq, less]
  | k + 1, x :: a, [], h => by simp [less] at h
  | k + 1, x :: a, y :: b, h => by
    have ih := less_take k a b
    simp only [less] at h
    simp only [leq, List.take_succ_cons, less]
    by_cases xy : x < y
    · have yx : ¬ y < x := by rw [UInt8.lt_iff_toNat_lt] at *; omega
      rw [if_neg yx, if_pos xy]
    · rw [if_neg xy] at h
      by_cases yx : y < x
      · rw [if_pos yx] at h; cases h
      · rw [if_neg yx] at h ⊢
        rw [if_neg xy]
        exact ih h

/-- The first k bytes of each row's end. -/
def ends (t : List UInt8) (rows : List Nat) (k : Nat) : List (List UInt8) := rows.map fun p => (t.drop p).take k

theorem ends_sorted {t : List UInt8} {rows : List Nat} (h : IsRows t rows) (k : Nat) : (ends t rows k).Pairwise leq := by
  unfold ends
  rw [List.pairwise_map]
  exact h.order.imp fun {p q} hpq => less_take k _ _ hpq

theorem rows_nodup {t : List UInt8} {rows : List Nat} (h : IsRows t rows) : rows.Nodup := h.perm.nodup_iff.2 List.nodup_range

theorem filter_erase {t : List UInt8} {rows : List Nat} (h : IsRows t rows) : (rows.filter fun p => decide (0 < p)) = rows.eraseIdx (rows.idxOf 0) := by
  rw [← List.erase_eq_eraseIdx_of_idxOf rfl, (rows_nodup h).erase_eq_filter]
  congr 1
  funext p
  by_cases hp : 0 < p
  · have : p ≠ 0 := by omega
    simp [hp, this]
  · have : p = 0 := by omega
    simp [this]

theorem map_eraseIdx {α β : Type} (f : α → β) : ∀ (l : List α) (i : Nat), (l.map f).eraseIdx i = (l.eraseIdx i).map f
  | [], _ => by simp
  | _ :: _, 0 => by simp
  | a :: l, i + 1 => by simp [map_eraseIdx f l i]

/-- One byte more ahead of each end. -/
theorem step_back {t : List UInt8} {rows : List Nat} (h : IsRows t rows) (k : Nat) : (ends t rows (k + 1)).Perm ([] :: List.zipWith List.cons (columnOf t rows) ((ends t rows k).eraseIdx (rows.idxOf 0))) := by
  have e1 : List.zipWith List.cons (columnOf t rows) ((ends t rows k).eraseIdx (rows.idxOf 0)) = (rows.filter fun p => decide (0 < p)).map fun p => (t.drop (p - 1)).take (k + 1) := by
    unfold ends columnOf
    rw [map_eraseIdx, ← filter_erase h, List.zipWith_map, List.zipWith_self]
    apply List.map_congr_left
    intro p hp
    rw [List.mem_filter] at hp
    have h1 := rows_lt h p hp.1
    have h2 : 0 < p := by simpa using hp.2
    have h3 : p - 1 < t.length := by omega
    rw [List.drop_eq_getElem_cons h3, List.take_succ_cons, List.getElem?_eq_getElem h3]
    simp only [Option.getD_some]
    rw [show p - 1 + 1 = p by omega]
  rw [e1]
  have e2 : (rows.filter fun p => decide (0 < p)).Perm ((List.range t.length).map Nat.succ) := by
    refine (h.perm.filter _).trans ?_
    rw [List.range_succ_eq_map, List.filter_cons]
    rw [if_neg (by simp), List.filter_eq_self.2 (by intro a ha; rw [List.mem_map] at ha; obtain ⟨b, _, rfl⟩ := ha; simp)]
  have e3 : ((rows.filter fun p => decide (0 < p)).map fun p => (t.drop (p - 1)).take (k + 1)).Perm ((List.range t.length).map fun p => (t.drop p).take (k + 1)) := by
    refine (e2.map _).trans ?_
    rw [List.map_map]
    exact List.Perm.of_eq (List.map_congr_left (fun a _ => by simp))
  refine List.Perm.trans ?_ (e3.symm.cons [])
  unfold ends
  refine (h.perm.map _).trans ?_
  rw [List.range_succ, List.map_append]
  simp only [List.map_cons, List.map_nil, List.drop_length, List.take_nil]
  exact List.perm_append_comm

theorem ends_eq {t u : List UInt8} {a b : List Nat} (ha : IsRows t a) (hb : IsRows u b) (hc : columnOf t a = columnOf u b) (hl : a.idxOf 0 = b.idxOf 0) (hn : t.length = u.length) (k : Nat) : ends t a k = ends u b k := by
  induction k with
  | zero =>
    unfold ends
    have l1 : a.length = t.length + 1 := by rw [ha.perm.length_eq, List.length_range]
    have l2 : b.length = u.length + 1 := by rw [hb.perm.length_eq, List.length_range]
    apply List.ext_getElem?
    intro j
    by_cases hj : j < a.length
    · have hj2 : j < b.length := by omega
      simp [hj, hj2]
    · have hj2 : ¬ j < b.length := by omega
      simp [hj, hj2]
  | succ k ih =>
    refine List.Perm.eq_of_pairwise (le := leq) (fun x y _ _ h1 h2 => leq_antisymm x y h1 h2) (ends_sorted ha _) (ends_sorted hb _) ?_
    refine (step_back ha k).trans (List.Perm.trans ?_ (step_back hb k).symm)
    rw [ih, hc, hl]

/-- The column and the last row tell the text. -/
theorem text_of {t u : List UInt8} {a b : List Nat} (ha : IsRows t a) (hb : IsRows u b) (hc : columnOf t a = columnOf u b) (hl : a.idxOf 0 = b.idxOf 0) (hn : t.length = u.length) : t = u := by
  have h := ends_eq ha hb hc hl hn t.length
  have i1 : a.idxOf 0 < a.length := List.idxOf_lt_length_of_mem (rows_zero ha)
  have i2 : b.idxOf 0 < b.length := List.idxOf_lt_length_of_mem (rows_zero hb)
  have e1 : (ends t a t.length)[a.idxOf 0]? = some t := by
    unfold ends
    rw [List.getElem?_map, List.getElem?_eq_getElem i1, List.getElem_idxOf]
    simp
  have e2 : (ends u b t.length)[b.idxOf 0]? = some u := by
    unfold ends
    rw [List.getElem?_map, List.getElem?_eq_getElem i2, List.getElem_idxOf, hn]
    simp
  rw [h, hl, e2] at e1
  exact (Option.some.inj e1).symm
end Rot
end Go.Proofs.YthlincikgdblfaaGreat
