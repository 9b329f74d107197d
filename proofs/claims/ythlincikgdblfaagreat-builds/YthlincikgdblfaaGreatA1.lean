import Derived.Test.YthlincikgdblfaaGreatA0
import Derived.Test.YthlincikgdblfaaGreatRows
import Derived.Test.YthlincikgdblfaaGreatShelf
namespace Go.Proofs.YthlincikgdblfaaGreat
open Go.RowKit
set_option linter.unusedVariables false

theorem ret_int {k : IntKind} {a b : Int} (h : a = b) : Ending.returned (.int k a) = .returned (.int k b) := by rw [h]
theorem ret_bool {a b : Bool} (h : a = b) : Ending.returned (.bool a) = .returned (.bool b) := by rw [h]
theorem num_eq {k : IntKind} {a b : Int} (h : a = b) : Value.int k a = .int k b := by rw [h]
theorem info8 : (Tryz.prog.info? 5).map (fun i => (i.zero, i.size, i.bytes)) = some (some (.int .u8 0), 1, 1) := by kernel_rfl

theorem isText_any (s : ByteArray) (w : World) (hs : s.size ≤ maxLen) : Calls Tryz.prog 33 #[.string s] w fun e w' => e = .returned (.bool (decide (s.size ≤ 250))) ∧ w' = w := by
  unfold maxLen at hs
  go_enter Tryz.func33, Tryz.ntmps33
  go_wp2
  go_ret
  exact ⟨ret_bool (by rw [Bool.eq_iff_iff]; simp; omega), rfl⟩

def isRate (r : Int) : Bool := r == 1 || r == 2 || r == 4 || r == 8
theorem isRate_any (r : Int) (w : World) : Calls Tryz.prog 34 #[.int .i64 r] w fun e w' => e = .returned (.bool (isRate r)) ∧ w' = w := by
  unfold isRate
  by_cases h1 : r = 1
  · subst h1
    go_enter Tryz.func34, Tryz.ntmps34
    go_wp2
    go_ret
    exact ⟨rfl, rfl⟩
  by_cases h2 : r = 2
  · subst h2
    go_enter Tryz.func34, Tryz.ntmps34
    go_wp2
    go_ret
    exact ⟨rfl, rfl⟩
  by_cases h4 : r = 4
  · subst h4
    go_enter Tryz.func34, Tryz.ntmps34
    go_wp2
    go_ret
    exact ⟨rfl, rfl⟩
  by_cases h8 : r = 8
  · subst h8
    go_enter Tryz.func34, Tryz.ntmps34
    go_wp2
    go_ret
    exact ⟨rfl, rfl⟩
  have e1 : (r == 1) = false := by simp [h1]
  have e2 : (r == 2) = false := by simp [h2]
  have e4 : (r == 4) = false := by simp [h4]
  have e8 : (r == 8) = false := by simp [h8]
  go_enter Tryz.func34, Tryz.ntmps34
  go_wp2
  go_ret
  exact ⟨by simp [e1, e2, e4, e8], rfl⟩

theorem isMarked_any (p r : Nat) (w : World) (hp : p ≤ 1000000) (hr : 1 ≤ r) (hr2 : r ≤ 8) : Calls Tryz.prog 120 #[.int .i64 p, .int .i64 r] w fun e w' => e = .returned (.bool (Rot.isMarked r p)) ∧ w' = w := by
  have hr0 : ((r : Int) == 0) = false := by simp; omega
  go_enter Tryz.func120, Tryz.ntmps120
  go_wp2
  go_ret
  exact ⟨ret_bool (by unfold Rot.isMarked; rw [Bool.eq_iff_iff]; simp; omega), rfl⟩

theorem len16 : (Lib.bitLen (Int.toNat 65535) : Int) = 16 := by decide
theorem width16 (w : World) : Calls Tryz.prog 97 #[] w fun e w' => e = .returned (.int .i64 2) ∧ w' = w := by
  have hsg : IntKind.u16.signed = false := rfl
  have hxo : bits BinOp.xor IntKind.u16 IntKind.u16.max 0 = 65535 := by decide
  go_enter Tryz.func97, Tryz.ntmps97
  go_wp2_with fail
  refine (Tryz.bits_Len64 _ _ (by decide) (by decide)).mono ?_
  rw [len16]
  rintro e w' ⟨rfl, rfl⟩
  go_wp2
  go_ret
  exact ⟨rfl, rfl⟩
theorem len32 : (Lib.bitLen (Int.toNat 4294967295) : Int) = 32 := by decide
theorem width32 (w : World) : Calls Tryz.prog 98 #[] w fun e w' => e = .returned (.int .i64 4) ∧ w' = w := by
  have hsg : IntKind.u32.signed = false := rfl
  have hxo : bits BinOp.xor IntKind.u32 IntKind.u32.max 0 = 4294967295 := by decide
  go_enter Tryz.func98, Tryz.ntmps98
  go_wp2_with fail
  refine (Tryz.bits_Len64 _ _ (by decide) (by decide)).mono ?_
  rw [len32]
  rintro e w' ⟨rfl, rfl⟩
  go_wp2
  go_ret
  exact ⟨rfl, rfl⟩
theorem len8 : (Lib.bitLen (Int.toNat 255) : Int) = 8 := by decide
theorem width8 (w : World) : Calls Tryz.prog 112 #[] w fun e w' => e = .returned (.int .i64 1) ∧ w' = w := by
  have hsg : IntKind.u8.signed = false := rfl
  have hxo : bits BinOp.xor IntKind.u8 IntKind.u8.max 0 = 255 := by decide
  go_enter Tryz.func112, Tryz.ntmps112
  go_wp2_with fail
  refine (Tryz.bits_Len64 _ _ (by decide) (by decide)).mono ?_
  rw [len8]
  rintro e w' ⟨rfl, rfl⟩
  go_wp2
  go_ret
  exact ⟨rfl, rfl⟩

section
variable {P : Program}
/-- APPEND OF BYTES FROM WHATEVER ROW onto a slice of the call's own. -/
theorem wp_appBs (w : World) {ops : Array Oper} {rest : List Oper} {o : Oper} {a : Act} {Q : Exit → Act → World → Prop} (hgd : o.guard = none) (s x : Operand)
    (ho : o.op = .call { callee := .builtin .append, args := #[s, x], argTypes := #[45, 45] })
    (B : Nat) (v : Value) (l : List UInt8) (hs : a.eval s = v) (hown : Bs w B v l) (v2 : Value) (B2 : Nat) (m : List UInt8) (hx : a.eval x = v2) (hm : Bs w B2 v2 m)
    (hl : l.length + m.length < 1000000) (hB : B ≤ w.heap.size)
    (h : ∀ v' w', Apx w w' B v v' (l ++ m) → wpList Tryz.prog ops Q rest (a.put o.dst v') w') : wpList Tryz.prog ops Q (o :: rest) a w := by
  obtain ⟨i0, hi, hz0, hz1, hz2⟩ := info_parts info8
  have hml : (by8 m).length = m.length * 1 := by rw [by8_length]; omega
  rcases hm.form with ⟨rfl, rfl⟩ | ⟨g, cap, rfl, hg1, hg2, hg3⟩
  · refine wpList_append_own_none hgd s x 45 ho B 5 i0 1 Tryz.underlying45 hi v l.length (by8 l) hs hown hx ?_
    refine h v w ⟨?_, World.grownBy.refl _ _, At.refl _ _⟩
    rw [List.append_nil]
    exact hown
  · refine wpList_append_own_at w hgd s x 45 ho B 5 i0 (.int .u8 0) 1 1 Tryz.underlying45 hi hz0 hz1 hz2 rfl (by decide) v l.length (by8 l) hs hown ⟨g, 0, none⟩ m.length cap (by8 m) hx hml (World.ownsRow.cells hm (g := g) rfl) (by8_one m) (by unfold maxLen; omega) (by omega) hB ?_
    intro v' w' h1 h2 h3 h4
    refine h v' w' ⟨?_, h2, ?_⟩
    · unfold Bs; rw [by8_append, List.length_append]; exact h1
    · rcases h4 with h4 | h4
      · exact Or.inl h4
      · exact Or.inr ⟨_, h4, Nat.le_refl _⟩
/-- APPEND OF ONE BYTE onto a full slice, whoever's. -/
theorem wp_app1_full (w : World) {ops : Array Oper} {rest : List Oper} {o : Oper} {a : Act} {Q : Exit → Act → World → Prop} (hgd : o.guard = none) (s x : Operand)
    (ho : o.op = .call { callee := .builtin .append, args := #[s, x], argTypes := #[45, 45] })
    (g : Nat) (l : List UInt8) (hs : a.eval s = .slice (some ⟨g, 0, none⟩) l.length l.length) (W : World) (N : Int) (hw : w = W.alloc (.cells #[.int .u8 N] 5)) (hx : a.eval x = .slice (some ⟨W.heap.size, 0, none⟩) 1 1)
    (hc : ∀ j (hj : j < l.length), W.cell? ⟨g, j, none⟩ = some (.int .u8 ((l[j]'hj).toNat : Int))) (hg : g < W.heap.size) (b : UInt8) (hb : N = (b.toNat : Int)) (hl : l.length < 1000000)
    (h : ∀ v' w', Bs w' W.heap.size v' (l ++ [b]) → W.grownBy w' none → wpList Tryz.prog ops Q rest (a.put o.dst v') w') : wpList Tryz.prog ops Q (o :: rest) a w := by
  subst hw hb
  obtain ⟨i0, hi, hz0, hz1, hz2⟩ := info_parts info8
  refine wpList_append_grows _ hgd s x 45 ho 5 i0 (.int .u8 0) 1 1 Tryz.underlying45 hi hz0 hz1 hz2 rfl (by decide) (some ⟨g, 0, none⟩) l.length l.length (by8 l) hs (by simp) (by rw [by8_length]; omega) ?_ ⟨W.heap.size, 0, none⟩ 1 1 (by8 [b]) hx rfl (cell_one_new _ _ _) (by8_one [b]) (by omega) (by unfold maxLen; omega) (by omega) ?_
  · intro b' hb' j u hu
    cases hb'
    rw [addr_add, World.cell?_alloc_past _ _ _ hg]
    have hj : j < l.length := by have := (List.getElem?_eq_some_iff.1 hu).1; rwa [by8_length] at this
    rw [hc j hj]
    simpa [by8, hj] using hu
  · intro v' w' h1 h2
    refine h v' w' (Bs.mono (base := (W.alloc (.cells #[.int .u8 (b.toNat : Int)] 5)).heap.size) ?_ (by simp)) (grown_trans (World.grownBy_alloc W _ none) h2 (Or.inl rfl))
    unfold Bs; rw [by8_append, List.length_append]; exact h1
/-- APPEND OF ONE BYTE, which lies in a new block. -/
theorem wp_app1 (w : World) {ops : Array Oper} {rest : List Oper} {o : Oper} {a : Act} {Q : Exit → Act → World → Prop} (hgd : o.guard = none) (s x : Operand)
    (ho : o.op = .call { callee := .builtin .append, args := #[s, x], argTypes := #[45, 45] })
    (B : Nat) (v : Value) (l : List UInt8) (hs : a.eval s = v) (W : World) (N : Int) (hw : w = W.alloc (.cells #[.int .u8 N] 5)) (hx : a.eval x = .slice (some ⟨W.heap.size, 0, none⟩) 1 1) (hown : Bs W B v l) (b : UInt8) (hb : N = (b.toNat : Int))
    (hl : l.length < 1000000) (hB : B ≤ W.heap.size)
    (h : ∀ v' w', Apx W w' B v v' (l ++ [b]) → wpList Tryz.prog ops Q rest (a.put o.dst v') w') : wpList Tryz.prog ops Q (o :: rest) a w := by
  subst hw hb
  obtain ⟨i0, hi, hz0, hz1, hz2⟩ := info_parts info8
  refine wpList_append_own_at _ hgd s x 45 ho B 5 i0 (.int .u8 0) 1 1 Tryz.underlying45 hi hz0 hz1 hz2 rfl (by decide) v l.length (by8 l) hs (hown.alloc _) ⟨W.heap.size, 0, none⟩ 1 1 (by8 [b]) hx rfl (cell_one_new _ _ _) (by8_one [b]) (by unfold maxLen; omega) (by omega) (by simp; omega) ?_
  intro v' w' h1 h2 h3 h4
  refine h v' w' ⟨?_, grown_trans (World.grownBy_alloc W _ _) h2 (Or.inl rfl), ?_⟩
  · unfold Bs; rw [by8_append, List.length_append]; exact h1
  · rcases h4 with h4 | h4
    · exact Or.inl h4
    · exact Or.inr ⟨_, h4, by simp⟩
end

theorem byte_of (x : Nat) : ((x : Int) % 256) = ((UInt8.ofNat x).toNat : Int) := by
  rw [UInt8.toNat_ofNat']; omega

set_option maxHeartbeats 1000000 in
theorem app16_any (B : Nat) (v : Value) (l : List UInt8) (x : Nat) (w : World) (hB : B ≤ w.heap.size) (h : Bs w B v l) (hl : l.length < 900000) (hx : x < 65536) :
    Calls Tryz.prog 61 #[v, .int .u16 x] w fun e w' => ∃ v', e = .returned v' ∧ Apx w w' B v v' (l ++ Rot.le16 x) := by
  go_enter Tryz.func61, Tryz.ntmps61
  go_wp2_with fail
  refine (width16 _).mono ?_
  rintro e w0 ⟨rfl, hw0⟩
  subst hw0
  go_wp2_with fail
  refine wp_loop_rounds 3 ?_
  rw [rounds_succ]
  go_wp2_with (at_builtin; refine wp_app1 _ rfl (.tmp 11) (.tmp 14) rfl B _ l rfl w0 _ rfl rfl h (UInt8.ofNat x) ?b0 ?l0 hB ?_)
  case b0 => exact byte_of x
  case l0 => omega
  intro v1 w1 C1
  have A1 := C1
  clear C1
  go_wp2_with fail
  rw [rounds_succ]
  go_wp2_with (at_builtin; refine wp_app1 _ rfl (.tmp 11) (.tmp 14) rfl B _ (l ++ [UInt8.ofNat x]) rfl w1 _ rfl rfl A1.own (UInt8.ofNat (x / 256)) ?b1 ?l1 (Nat.le_trans hB A1.size) ?_)
  case b1 => rw [← byte_of]; omega
  case l1 => rw [List.length_append]; simp only [List.length_cons, List.length_nil]; omega
  intro v2 w2 C2
  have A2 := A1.trans C2
  try rw [List.append_assoc] at A2
  try simp only [List.cons_append, List.nil_append] at A2
  clear C2 A1
  go_wp2_with fail
  rw [rounds_succ]
  go_wp2_with fail
  go_ret
  exact ⟨_, rfl, A2⟩

set_option maxHeartbeats 1000000 in
theorem app16_full (g : Nat) (l : List UInt8) (x : Nat) (w : World) (hc : ∀ j (hj : j < l.length), w.cell? ⟨g, j, none⟩ = some (.int .u8 ((l[j]'hj).toNat : Int))) (hg : g < w.heap.size) (hl : l.length < 900000) (hx : x < 65536) :
    Calls Tryz.prog 61 #[.slice (some ⟨g, 0, none⟩) l.length l.length, .int .u16 x] w fun e w' => ∃ v', e = .returned v' ∧ Bs w' w.heap.size v' (l ++ Rot.le16 x) ∧ w.grownBy w' none := by
  have HC : Hid (∀ j (hj : j < l.length), w.cell? ⟨g, j, none⟩ = some (.int .u8 ((l[j]'hj).toNat : Int))) := hc
  clear hc
  go_enter Tryz.func61, Tryz.ntmps61
  go_wp2_with fail
  refine (width16 _).mono ?_
  rintro e w0 ⟨rfl, hw0⟩
  subst hw0
  go_wp2_with fail
  refine wp_loop_rounds 3 ?_
  rw [rounds_succ]
  go_wp2_with (at_builtin; refine wp_app1_full _ rfl (.tmp 11) (.tmp 14) rfl g l rfl w0 _ rfl rfl HC.out hg (UInt8.ofNat x) ?b0 ?l0 ?_)
  case b0 => exact byte_of x
  case l0 => omega
  intro v1 w1 C1 G1
  clear HC
  go_wp2_with fail
  rw [rounds_succ]
  go_wp2_with (at_builtin; refine wp_app1 _ rfl (.tmp 11) (.tmp 14) rfl w0.heap.size _ (l ++ [UInt8.ofNat x]) rfl w1 _ rfl rfl C1 (UInt8.ofNat (x / 256)) ?b1 ?l1 G1.size ?_)
  case b1 => rw [← byte_of]; omega
  case l1 => rw [List.length_append]; simp only [List.length_cons, List.length_nil]; omega
  intro v2 w2 C2
  have A2 := C2.own
  have G2 : w0.grownBy w2 none := grown_trans G1 C2.grown (by
    cases eo : v1.ownBlock with
    | none => exact Or.inl rfl
    | some j => exact Or.inr ⟨j, rfl, (C1.lt eo).1⟩)
  try rw [List.append_assoc] at A2
  try simp only [List.cons_append, List.nil_append] at A2
  clear C1 C2 G1
  go_wp2_with fail
  rw [rounds_succ]
  go_wp2_with fail
  go_ret
  exact ⟨_, rfl, A2, G2⟩

set_option maxHeartbeats 1000000 in
theorem app32_any (B : Nat) (v : Value) (l : List UInt8) (x : Nat) (w : World) (hB : B ≤ w.heap.size) (h : Bs w B v l) (hl : l.length < 900000) (hx : x < 4294967296) :
    Calls Tryz.prog 62 #[v, .int .u32 x] w fun e w' => ∃ v', e = .returned v' ∧ Apx w w' B v v' (l ++ Rot.le32 x) := by
  go_enter Tryz.func62, Tryz.ntmps62
  go_wp2_with fail
  refine (width32 _).mono ?_
  rintro e w0 ⟨rfl, hw0⟩
  subst hw0
  go_wp2_with fail
  refine wp_loop_rounds 5 ?_
  rw [rounds_succ]
  go_wp2_with (at_builtin; refine wp_app1 _ rfl (.tmp 11) (.tmp 14) rfl B _ l rfl w0 _ rfl rfl h (UInt8.ofNat x) ?b0 ?l0 hB ?_)
  case b0 => exact byte_of x
  case l0 => omega
  intro v1 w1 C1
  have A1 := C1
  clear C1
  go_wp2_with fail
  rw [rounds_succ]
  go_wp2_with (at_builtin; refine wp_app1 _ rfl (.tmp 11) (.tmp 14) rfl B _ (l ++ [UInt8.ofNat x]) rfl w1 _ rfl rfl A1.own (UInt8.ofNat (x / 256)) ?b1 ?l1 (Nat.le_trans hB A1.size) ?_)
  case b1 => rw [← byte_of]; omega
  case l1 => rw [List.length_append]; simp only [List.length_cons, List.length_nil]; omega
  intro v2 w2 C2
  have A2 := A1.trans C2
  try rw [List.append_assoc] at A2
  try simp only [List.cons_append, List.nil_append] at A2
  clear C2 A1
  go_wp2_with fail
  rw [rounds_succ]
  go_wp2_with (at_builtin; refine wp_app1 _ rfl (.tmp 11) (.tmp 14) rfl B _ (l ++ [UInt8.ofNat x, UInt8.ofNat (x / 256)]) rfl w2 _ rfl rfl A2.own (UInt8.ofNat (x / 65536)) ?b2 ?l2 (Nat.le_trans hB A2.size) ?_)
  case b2 => rw [← byte_of]; omega
  case l2 => rw [List.length_append]; simp only [List.length_cons, List.length_nil]; omega
  intro v3 w3 C3
  have A3 := A2.trans C3
  try rw [List.append_assoc] at A3
  try simp only [List.cons_append, List.nil_append] at A3
  clear C3 A2
  go_wp2_with fail
  rw [rounds_succ]
  go_wp2_with (at_builtin; refine wp_app1 _ rfl (.tmp 11) (.tmp 14) rfl B _ (l ++ [UInt8.ofNat x, UInt8.ofNat (x / 256), UInt8.ofNat (x / 65536)]) rfl w3 _ rfl rfl A3.own (UInt8.ofNat (x / 16777216)) ?b3 ?l3 (Nat.le_trans hB A3.size) ?_)
  case b3 => rw [← byte_of]; omega
  case l3 => rw [List.length_append]; simp only [List.length_cons, List.length_nil]; omega
  intro v4 w4 C4
  have A4 := A3.trans C4
  try rw [List.append_assoc] at A4
  try simp only [List.cons_append, List.nil_append] at A4
  clear C4 A3
  go_wp2_with fail
  rw [rounds_succ]
  go_wp2_with fail
  go_ret
  exact ⟨_, rfl, A4⟩

set_option maxHeartbeats 1000000 in
theorem app8_any (B : Nat) (v : Value) (l : List UInt8) (x : Nat) (w : World) (hB : B ≤ w.heap.size) (h : Bs w B v l) (hl : l.length < 900000) (hx : x < 256) :
    Calls Tryz.prog 99 #[v, .int .u8 x] w fun e w' => ∃ v', e = .returned v' ∧ Apx w w' B v v' (l ++ [UInt8.ofNat x]) := by
  go_enter Tryz.func99, Tryz.ntmps99
  go_wp2_with fail
  refine (width8 _).mono ?_
  rintro e w0 ⟨rfl, hw0⟩
  subst hw0
  go_wp2_with fail
  refine wp_loop_rounds 2 ?_
  rw [rounds_succ]
  go_wp2_with (at_builtin; refine wp_app1 _ rfl (.tmp 11) (.tmp 14) rfl B _ l rfl w0 _ rfl rfl h (UInt8.ofNat x) ?b0 ?l0 hB ?_)
  case b0 => rw [← byte_of]; omega
  case l0 => omega
  intro v1 w1 C1
  have A1 := C1
  clear C1
  go_wp2_with fail
  rw [rounds_succ]
  go_wp2_with fail
  go_ret
  exact ⟨_, rfl, A1⟩

end Go.Proofs.YthlincikgdblfaaGreat
