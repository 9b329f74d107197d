import Derived.Test.YthlincikgdblfaaGreatZ37
import Derived.Test.YthlincikgdblfaaGreatZ42
import Derived.Laws.IdiomStrings
namespace Go.Proofs.YthlincikgdblfaaGreat
set_option linter.unusedVariables false
namespace Rot

/-! The check sum tells one byte. -/
theorem sumStep_lt (s : Nat) (b : UInt8) : sumStep s b < 4294967296 := Nat.mod_lt _ (by decide)
theorem mod_shift {x y c : Nat} (e : (x + c + 1) % 4294967296 = (y + c + 1) % 4294967296) : x % 4294967296 = y % 4294967296 := by omega
theorem sumStep_inj {s s' : Nat} (h : s < 4294967296) (h' : s' < 4294967296) (b : UInt8) (e : sumStep s b = sumStep s' b) : s = s' := by
  unfold sumStep at e
  have e1 : (s * 65599) % 4294967296 = (s' * 65599) % 4294967296 := mod_shift e
  have e2 : ∀ z, z < 4294967296 → (z * 65599) % 4294967296 * 2390421439 % 4294967296 = z := by
    intro z hz
    rw [Nat.mod_mul_mod, Nat.mul_assoc, show 65599 * 2390421439 = 4294967296 * 36510 + 1 from rfl, Nat.mul_add, Nat.mul_one, Nat.mul_left_comm, Nat.mul_add_mod, Nat.mod_eq_of_lt hz]
  rw [← e2 s h, ← e2 s' h', e1]
theorem sumStep_byte {s : Nat} {b b' : UInt8} (e : sumStep s b = sumStep s b') : b = b' := by
  unfold sumStep at e
  have h1 := b.toNat_lt
  have h2 := b'.toNat_lt
  apply UInt8.toNat_inj.1
  omega
theorem sumFrom_inj : ∀ (l : List UInt8) (s s' : Nat), s < 4294967296 → s' < 4294967296 → l.foldl sumStep s = l.foldl sumStep s' → s = s'
  | [], _, _, _, _, e => e
  | b :: l, s, s', h, h', e => sumStep_inj h h' b (sumFrom_inj l _ _ (sumStep_lt _ _) (sumStep_lt _ _) e)
/-- Two rows of bytes that part at one place at most, and have one sum, are the same. -/
theorem sum_one_aux : ∀ (l l' : List UInt8) (s k : Nat), s < 4294967296 → l.length = l'.length → (∀ i, i ≠ k → l[i]? = l'[i]?) → l.foldl sumStep s = l'.foldl sumStep s → l = l'
  | [], [], _, _, _, _, _, _ => rfl
  | [], _ :: _, _, _, _, h, _, _ => by simp at h
  | _ :: _, [], _, _, _, h, _, _ => by simp at h
  | b :: l, b' :: l', s, 0, hs, hl, hd, he => by
    have hll : l = l' := by
      apply List.ext_getElem?
      intro i
      have := hd (i + 1) (by omega)
      simpa using this
    subst hll
    have := sumFrom_inj l _ _ (sumStep_lt _ _) (sumStep_lt _ _) he
    rw [sumStep_byte this]
  | b :: l, b' :: l', s, k + 1, hs, hl, hd, he => by
    have hb : b = b' := by
      have := hd 0 (by omega)
      simpa using this
    subst hb
    have := sum_one_aux l l' (sumStep s b) k (sumStep_lt _ _) (by simpa using hl) (fun i hi => by have := hd (i + 1) (by omega); simpa using this) he
    rw [this]
theorem sum_one {l l' : List UInt8} (k : Nat) (hl : l.length = l'.length) (hd : ∀ i, i ≠ k → l[i]? = l'[i]?) (he : sumOf l = sumOf l') : l = l' := sum_one_aux l l' 0 k (by decide) hl hd he
theorem sumOf_lt (l : List UInt8) : sumOf l < 4294967296 := by
  unfold sumOf
  rcases List.eq_nil_or_concat l with rfl | ⟨m, b, rfl⟩
  · exact Nat.zero_lt_succ _
  · rw [List.concat_eq_append, List.foldl_append]
    exact sumStep_lt _ _

/-! The table tells lengths and sums. -/
theorem le16_inj {a b : Nat} (ha : a < 65536) (hb : b < 65536) (h : le16 a = le16 b) : a = b := by
  have h1 := le16_back a ha
  have h2 := le16_back b hb
  simp only [le16, List.cons.injEq, and_true] at h
  rw [h.1, h.2] at h1
  omega
theorem le32_back (n : Nat) (hn : n < 4294967296) : (UInt8.ofNat n).toNat + 256 * (UInt8.ofNat (n / 256)).toNat + 65536 * (UInt8.ofNat (n / 65536)).toNat + 16777216 * (UInt8.ofNat (n / 16777216)).toNat = n := by
  simp
  omega
theorem le32_inj {a b : Nat} (ha : a < 4294967296) (hb : b < 4294967296) (h : le32 a = le32 b) : a = b := by
  have h1 := le32_back a ha
  have h2 := le32_back b hb
  simp only [le32, List.cons.injEq, and_true] at h
  rw [h.1, h.2.1, h.2.2.1, h.2.2.2] at h1
  omega
theorem table_tells : ∀ (ss ss' : List (List UInt8)), ss.length = ss'.length → (∀ x ∈ ss, x.length < 65536) → (∀ x ∈ ss', x.length < 65536) → tableOf ss = tableOf ss' → ∀ j : Nat, (ss[j]?).map (fun x => (x.length, sumOf x)) = (ss'[j]?).map (fun x => (x.length, sumOf x))
  | [], [], _, _, _, _, _ => rfl
  | [], _ :: _, h, _, _, _, _ => by simp at h
  | _ :: _, [], h, _, _, _, _ => by simp at h
  | x :: ss, x' :: ss', h, h1, h2, e, j => by
    unfold tableOf at e
    rw [List.flatMap_cons, List.flatMap_cons] at e
    obtain ⟨e1, e2⟩ := List.append_inj e (by simp [le16, le32])
    obtain ⟨e3, e4⟩ := List.append_inj e1 (by simp [le16])
    have hx := le16_inj (h1 x (by simp)) (h2 x' (by simp)) e3
    have hs := le32_inj (sumOf_lt x) (sumOf_lt x') e4
    cases j with
    | zero => simp [hx, hs]
    | succ j =>
      simp only [List.getElem?_cons_succ]
      exact table_tells ss ss' (by simpa using h) (fun y hy => h1 y (by simp [hy])) (fun y hy => h2 y (by simp [hy])) e2 j
/-- Sections of the same lengths and sums, whose bodies part at one place at most, are the same. -/
theorem body_one : ∀ (ss ss' : List (List UInt8)) (k : Nat), ss.length = ss'.length → (∀ j : Nat, (ss[j]?).map (fun x => (x.length, sumOf x)) = (ss'[j]?).map (fun x => (x.length, sumOf x))) → (∀ i : Nat, i ≠ k → (bodyOf ss)[i]? = (bodyOf ss')[i]?) → bodyOf ss = bodyOf ss'
  | [], [], _, _, _, _ => rfl
  | [], _ :: _, _, h, _, _ => by simp at h
  | _ :: _, [], _, h, _, _ => by simp at h
  | x :: ss, x' :: ss', k, h, ht, hd => by
    have h0 := ht 0
    simp only [List.getElem?_cons_zero, Option.map_some, Option.some.injEq, Prod.mk.injEq] at h0
    have e : ∀ (y : List UInt8) (ys : List (List UInt8)), bodyOf (y :: ys) = y ++ bodyOf ys := fun y ys => by simp [bodyOf]
    rw [e, e] at hd ⊢
    have hx : x = x' := by
      refine sum_one k h0.1 ?_ h0.2
      intro i hi
      by_cases hl : i < x.length
      · have := hd i hi
        rw [List.getElem?_append_left hl, List.getElem?_append_left (by omega)] at this
        exact this
      · rw [List.getElem?_eq_none (by omega), List.getElem?_eq_none (by omega)]
    subst hx
    have ih : bodyOf ss = bodyOf ss' := by
      by_cases hk : x.length ≤ k
      · refine body_one ss ss' (k - x.length) (by simpa using h) (fun j => by have := ht (j + 1); simpa using this) ?_
        intro i hi
        have := hd (x.length + i) (by omega)
        rw [List.getElem?_append_right (by omega), List.getElem?_append_right (by omega)] at this
        rw [show x.length + i - x.length = i by omega] at this
        exact this
      · apply List.ext_getElem?
        intro i
        have := hd (x.length + i) (by omega)
        rw [List.getElem?_append_right (by omega), List.getElem?_append_right (by omega)] at this
        rw [show x.length + i - x.length = i by omega] at this
        exact this
    rw [ih]
theorem app_get {α : Type} (a b : List α) (i : Nat) : (a ++ b)[a.length + i]? = b[i]? := by
  rw [List.getElem?_append_right (by omega)]
  congr 1
  omega
theorem sections_len (t : List UInt8) (rows : List Nat) (r : Nat) : (sectionsOf t rows r).length = 5 := rfl
theorem file_parts {t : List UInt8} {rows : List Nat} (r : Nat) : ∃ hd, hd.length = 12 ∧ fileOf t rows r = hd ++ (tableOf (sectionsOf t rows r) ++ bodyOf (sectionsOf t rows r)) := ⟨_, head_len _ _ _, by unfold fileOf; rw [List.append_assoc]⟩
/-- SPOILT: two files that part at one place at most, behind head and table, are the same. -/
theorem file_one {b b' t u : List UInt8} {r q : Nat} (h : IsFile b t r) (h' : IsFile b' u q) (k : Nat) (hk : 42 ≤ k) (hd : ∀ i, i ≠ k → b[i]? = b'[i]?) : b = b' := by
  obtain ⟨ht, hr, rows, hR, rfl⟩ := h
  obtain ⟨hu, hq, rows', hR', rfl⟩ := h'
  obtain ⟨H, hH, e⟩ := file_parts (t := t) (rows := rows) r
  obtain ⟨H', hH', e'⟩ := file_parts (t := u) (rows := rows') q
  have hs := sec_len hR ht r
  have hs' := sec_len hR' hu q
  have hl := sections_len t rows r
  have hl' := sections_len u rows' q
  rw [e, e'] at hd ⊢
  generalize sectionsOf t rows r = ss at hs hl hd ⊢
  generalize sectionsOf u rows' q = ss' at hs' hl' hd ⊢
  have tl : (tableOf ss).length = 30 := by rw [table_len, hl]
  have tl' : (tableOf ss').length = 30 := by rw [table_len, hl']
  have eH : H = H' := by
    apply List.ext_getElem?
    intro i
    by_cases hi : i < 12
    · have := hd i (by omega)
      rw [List.getElem?_append_left (by omega), List.getElem?_append_left (by omega)] at this
      exact this
    · rw [List.getElem?_eq_none (by omega), List.getElem?_eq_none (by omega)]
  subst eH
  have hd2 : ∀ i, i ≠ k - 12 → (tableOf ss ++ bodyOf ss)[i]? = (tableOf ss' ++ bodyOf ss')[i]? := by
    intro i hi
    have := hd (H.length + i) (by omega)
    rw [app_get, app_get] at this
    exact this
  have eT : tableOf ss = tableOf ss' := by
    apply List.ext_getElem?
    intro i
    by_cases hi : i < 30
    · have := hd2 i (by omega)
      rw [List.getElem?_append_left (by omega), List.getElem?_append_left (by omega)] at this
      exact this
    · rw [List.getElem?_eq_none (by omega), List.getElem?_eq_none (by omega)]
  have tt := table_tells ss ss' (by omega) (fun x hx => by have := hs x hx; omega) (fun x hx => by have := hs' x hx; omega) eT
  have eB : bodyOf ss = bodyOf ss' := by
    refine body_one ss ss' (k - 42) (by omega) tt ?_
    intro i hi
    have := hd2 ((tableOf ss).length + i) (by omega)
    rw [app_get, eT, app_get] at this
    exact this
  rw [eT, eB]
/-- CUT OFF, OR GONE ON: two files that have the first seven bytes in common have the same length. -/
theorem file_same_len {b b' t u : List UInt8} {r q : Nat} (h : IsFile b t r) (h' : IsFile b' u q) (hd : ∀ i, i < 7 → b[i]? = b'[i]?) : b.length = b'.length := by
  have e4 := hd 4 (by omega)
  have e5 := hd 5 (by omega)
  have e6 := hd 6 (by omega)
  have s1 := h.says
  have s2 := h'.says
  rw [e4, e5, e6] at s1
  have hn : t.length = u.length := s1.1.symm.trans s2.1
  have hr : r = q := s1.2.1.symm.trans s2.2.1
  rw [h.size.1, h'.size.1, hn, hr]
end Rot
end Go.Proofs.YthlincikgdblfaaGreat

namespace Go.Proofs.YthlincikgdblfaaGreat
set_option linter.unusedVariables false
open Go.RowKit

theorem spoilt_one {b t : List UInt8} {r : Nat} (h : Rot.IsFile b t r) (k : Nat) (hk : 42 ≤ k) (hkl : k < b.length) (c : UInt8) (hc : c ≠ b[k]'hkl) : ¬ ∃ u q, Rot.IsFile (b.set k c) u q := by
  rintro ⟨u, q, h'⟩
  have e := Rot.file_one h h' k hk (fun i hi => by rw [List.getElem?_set_ne (fun e => hi e.symm)])
  have e2 : b[k]? = (b.set k c)[k]? := by rw [← e]
  rw [List.getElem?_set_self hkl, List.getElem?_eq_getElem hkl] at e2
  injection e2 with e2
  exact hc e2.symm
theorem spoilt_cut {b t : List UInt8} {r : Nat} (h : Rot.IsFile b t r) (k : Nat) (hk : 42 ≤ k) (hkl : k < b.length) : ¬ ∃ u q, Rot.IsFile (b.take k) u q := by
  rintro ⟨u, q, h'⟩
  have e := Rot.file_same_len h h' (fun i hi => by rw [List.getElem?_take_of_lt (by omega)])
  rw [List.length_take] at e
  omega
theorem spoilt_more {b t : List UInt8} {r : Nat} (h : Rot.IsFile b t r) (m : List UInt8) (hm : m ≠ []) : ¬ ∃ u q, Rot.IsFile (b ++ m) u q := by
  rintro ⟨u, q, h'⟩
  have h7 := h.size.2.1
  have e := Rot.file_same_len h h' (fun i hi => by rw [List.getElem?_append_left (by omega)])
  rw [List.length_append] at e
  have : m.length ≠ 0 := fun e0 => hm (List.eq_nil_of_length_eq_zero e0)
  omega
/-- LOAD, of bytes that are no file. -/
theorem load_bad (b : Nat) (S : ByteArray) (vs : Value) (sz : List Int) (w : World) (h : Src w b S vs sz 0) (hs : S.size ≤ 4000) (hlow : ∀ a n c, vs = .slice (some a) n c → a.block < w.heap.size) (hp : ∀ z ∈ sz, 1 ≤ z) (hno : ¬ ∃ t r, Rot.IsFile S.data.toList t r) :
    Calls Tryz.prog 15 #[.pointer (some ⟨b, 0, none⟩)] w fun e w' => e = .returned (.tuple #[.pointer none, .int .i64 4]) ∧ w.grownBy w' (some b) := by
  refine (load_bytes b S vs sz w h hs hlow hp).mono ?_
  rintro e w' ⟨hG, (⟨h1, _⟩ | ⟨p, t, r, h1, h2⟩)⟩
  · exact ⟨h1, hG⟩
  · exact absurd ⟨t, r, h2.1⟩ hno
/-- The bytes of a string, as a slice of the call's own. -/
theorem bytes_of (S : ByteArray) (w : World) : ∃ w' cap, (convert 9 45 (.string S)).run Tryz.prog w = .ok (.slice (some ⟨w.heap.size, 0, none⟩) S.size cap) w' ∧ w.grownBy w' none ∧ w.heap.size < w'.heap.size ∧ ∀ j (hj : j < S.data.toList.length), w'.cell? ⟨w.heap.size, j, none⟩ = some (.int .u8 ((S.data.toList[j]'hj).toNat : Int)) ∧ w'.frozen? ⟨w.heap.size, j, none⟩ = false := by
  refine ⟨_, _, run_bytes_of_string w 9 45 5 S Tryz.underlying9 Tryz.underlying45 Tryz.underlying5, ?_, ?_, ?_⟩
  · exact ⟨rfl, rfl, rfl, by simp, fun k hk _ => Below.heap_alloc w.drew _ k hk⟩
  · simp
  · intro j hj
    have hj2 : j < S.data.size := by simpa using hj
    refine ⟨?_, ?_⟩
    · refine (World.cell?_alloc_mark w.drew _ _ _ j).trans ?_
      rw [bytesRow_at S _ j hj2]
      simp
    · refine (World.frozen?_alloc_mark w.drew _ _ _ _ j).trans ?_
      have : ¬ ((bytesRow S (grownCap w S.size 0 5)).size ≤ j) := by
        have e : S.data.size ≤ (bytesRow S (grownCap w S.size 0 5)).size := by unfold bytesRow; simp
        omega
      simp [this]
set_option maxRecDepth 100000 in
set_option maxHeartbeats 2000000 in
theorem spoilt_walk (a0 : ByteArray) (a1 a2 a3 : Int) (m4 : ByteArray) (h0 : a0.size ≤ maxLen) (h1 : -9223372036854775808 ≤ a1 ∧ a1 ≤ 9223372036854775807) (h2 : -9223372036854775808 ≤ a2 ∧ a2 ≤ 9223372036854775807) (h3 : -9223372036854775808 ≤ a3 ∧ a3 ≤ 9223372036854775807) (h4 : m4.size ≤ 4611686018427387904) (w : World) :
    Calls Tryz.prog 7 #[.string a0, .int .i64 a1, .int .i64 a2, .int .i64 a3, .string m4] w fun e w' => e = .returned (.bool true) ∧ Below w.heap.size w w' := by
  have hcs := cut_size a0
  have hr := isRate_rateOf a1
  have K0 := hide (fun W => cut_any a0 W h0)
  have K1 := hide (fun W => krate_any a1 W h1.1 h1.2)
  have K2 := hide (fun W => built_any (cutOf a0) (rateOf a1) W hcs hr)
  have hq := pick_lt a3 255 (by decide)
  have KQ := hide (fun W => kpick_any a3 255 W h3.1 h3.2 (by decide) (by decide))
  generalize pickOf a3 255 = q at hq KQ
  generalize cutOf a0 = t at *
  generalize rateOf a1 = r at *
  have HR := hide hr
  clear hr h0 h1
  go_enter Tryz.func7, Tryz.ntmps7
  go_wp2_with fail
  refine (unhide K0 _).mono ?_
  rintro e w1 ⟨rfl, hw⟩
  replace hw := hw.symm
  subst hw
  go_wp2_with fail
  refine (unhide K1 _).mono ?_
  rintro e w1 ⟨rfl, hw⟩
  replace hw := hw.symm
  subst hw
  go_wp2_with fail
  refine (unhide K2 _).mono ?_
  rintro e w1 ⟨rows, hR, rfl, hB⟩
  have hf := built_file hcs (unhide HR) hR
  generalize (⟨(Rot.fileOf t.data.toList rows r).toArray⟩ : ByteArray) = S at hf ⊢
  have hsz := hf.size.2
  have hSl : S.data.toList.length = S.size := by simp
  rw [hSl] at hsz
  obtain ⟨hs1, hs2⟩ := hsz
  have hsrc := src_new w1 S _ _ (ints_nil w1) (fun a n c e => by cases e)
  have hld := load_file w1.heap.size S _ _ t.data.toList r _ hsrc (fun a n c e => by cases e) hf (by simp)
  have HB : Hid (Below w.heap.size w (w1.alloc (.cells #[.string S, .slice none 0 0, .int .i64 0] 37))) := hB.alloc hB.size _
  have hle1 : w.heap.size ≤ w1.heap.size := hB.size
  have HF := hide hf
  clear hR hf hB hsrc K0 K1 K2
  go_wp2_with fail
  refine hld.mono ?_
  rintro e w2 ⟨p, k, rfl, hS2, hG2, hidx⟩
  have HB2 : Hid (Below w.heap.size w w2) := (unhide HB).grown hG2 (unhide HB).size (fun k e => by injection e; omega)
  have hI := pick_lt a2 (S.size - 42) (by omega)
  have KI : Hid (∀ W, Calls Tryz.prog 19 #[.int .i64 a2, .int .i64 ((S.size : Int) - 42)] W fun e w' => e = .returned (.int .i64 (pickOf a2 (S.size - 42) : Int)) ∧ w' = W) := by
    intro W
    have e : ((S.size : Int) - 42) = ((S.size - 42 : Nat) : Int) := by omega
    rw [e]
    exact kpick_any a2 (S.size - 42) W h2.1 h2.2 (by omega) (by omega)
  generalize pickOf a2 (S.size - 42) = I at hI KI
  clear hld hS2 hG2 hidx HB
  go_wp2_with fail
  refine (unhide KI _).mono ?_
  rintro e w3 ⟨rfl, hw⟩
  subst hw
  obtain ⟨w4, cap, hcv, hG4, hlt4, hcells⟩ := bytes_of S w3
  have HC := hide hcells
  have HB4 := hide (below_on (unhide HB2) hG4 (Nat.le_refl _))
  have hle3 : w.heap.size ≤ w3.heap.size := (unhide HB2).size
  clear hcells hG4 KI HB2
  obtain ⟨J, hJ⟩ : ∃ J : Nat, J = 42 + I := ⟨_, rfl⟩
  have eJ : (42 : Int) + (I : Int) = (J : Int) := by omega
  have hJ1 : 42 ≤ J := by omega
  have hJ2 : J < S.size := by omega
  have hcJ := (unhide HC J (by omega)).1
  have hfJ := (unhide HC J (by omega)).2
  obtain ⟨v, hv⟩ : ∃ v : UInt8, v = S.data.toList[J]'(by omega) := ⟨_, rfl⟩
  rw [← hv] at hcJ
  have HV := hide hv
  have hvb : v.toNat < 256 := v.toNat_lt
  obtain ⟨nb, hnb⟩ : ∃ nb : Nat, nb = (v.toNat + 1 + q) % 256 := ⟨_, rfl⟩
  have hwrap : IntKind.u8.wrap (IntKind.i64.wrap (IntKind.i64.wrap (IntKind.i64.wrap (v.toNat : Int) + 1) + (q : Int))) = (nb : Int) := by
    have e1 : IntKind.i64.wrap (v.toNat : Int) = (v.toNat : Int) := by rw [IntKind.wrap_i64]; omega
    have e2 : IntKind.i64.wrap ((v.toNat : Int) + 1) = (v.toNat : Int) + 1 := by rw [IntKind.wrap_i64]; omega
    have e3 : IntKind.i64.wrap ((v.toNat : Int) + 1 + (q : Int)) = (v.toNat : Int) + 1 + (q : Int) := by rw [IntKind.wrap_i64]; omega
    rw [e1, e2, e3, IntKind.wrap_u8']
    omega
  have hnv : nb ≠ v.toNat := by omega
  have hn256 : nb < 256 := by omega
  have HNV := hide hnv
  clear hJ hI hv hnb hnv
  go_wp2_with fail
  go_cut [] (fun wx => ∃ j, wx = (w4.setCell ⟨w3.heap.size, J, none⟩ (.int .u8 (nb : Int))).drewN j)
  case first =>
    go_region_with (first | (go_at_call 19; refine (unhide KQ _).mono ?_; rintro e w9 ⟨rfl, rfl⟩))
    all_goals
      go_wp2_with fail
      go_meet
      exact ⟨1, rfl⟩
  case rest =>
    obtain ⟨j, hw5⟩ := hcut
    have hl5 : (S.data.toList.set J (UInt8.ofNat nb)).length = S.size := by rw [List.length_set]; exact hSl
    have hnn : (UInt8.ofNat nb).toNat = nb := by rw [UInt8.toNat_ofNat']; omega
    have hcv2 : (convert 45 9 (.slice (some ⟨w3.heap.size, 0, none⟩) S.size cap)).run Tryz.prog wc = .ok (.string (Sb (S.data.toList.set J (UInt8.ofNat nb)))) wc := by
      have := run_convert_bytes_back (P := Tryz.prog) wc 45 9 5 ⟨w3.heap.size, 0, none⟩ cap (S.data.toList.set J (UInt8.ofNat nb)) Tryz.underlying45 Tryz.underlying5 Tryz.underlying9 (by
        intro i hi
        rw [hl5] at hi
        rw [addr_add, hw5]
        show (w4.setCell ⟨w3.heap.size, J, none⟩ (.int .u8 (nb : Int))).cell? ⟨w3.heap.size, i, none⟩ = _
        by_cases e : i = J
        · subst e
          rw [World.cell?_setCell_same _ _ _ hcJ]
          simp [hnn]
        · rw [World.cell?_setCell_other _ _ _ _ (by intro h; injection h with _ h2; exact e h2.symm), (unhide HC i (by omega)).1, List.getElem_set_ne (fun h => e h.symm)])
      rw [hl5] at this
      exact this
    have hno5 : ¬ ∃ u q, Rot.IsFile (Sb (S.data.toList.set J (UInt8.ofNat nb))).data.toList u q := by
      rw [Sb_toList]
      refine spoilt_one (unhide HF) J hJ1 (by omega) _ ?_
      intro e
      apply unhide HNV
      rw [unhide HV, ← e, hnn]
    have hs5 : (Sb (S.data.toList.set J (UInt8.ofNat nb))).size ≤ 4000 := by rw [Sb_size, hl5]; omega
    have HB5 : Hid (Below w.heap.size w wc) := by
      rw [hw5]
      exact below_drewN ((unhide HB4).setCell hle3 _)
    generalize Sb (S.data.toList.set J (UInt8.ofNat nb)) = S5 at hcv2 hno5 hs5
    have hsrc := src_new wc S5 _ _ (ints_nil wc) (fun a n c e => by cases e)
    have hld := load_bad wc.heap.size S5 _ _ _ hsrc hs5 (fun a n c e => by cases e) (by simp) hno5
    have HB6 : Hid (Below w.heap.size w (wc.alloc (.cells #[.string S5, .slice none 0 0, .int .i64 0] 37))) := (unhide HB5).alloc (unhide HB5).size _
    have hle5 : w.heap.size ≤ wc.heap.size := (unhide HB5).size
    clear hw5 hcJ hfJ hsrc HC HB4 HB5 hno5 hwrap HNV HV hcv
    go_wp2_with fail
    refine hld.mono ?_
    rintro e w6 ⟨rfl, hG6⟩
    have HB7 : Hid (Below w.heap.size w w6) := (unhide HB6).grown hG6 (unhide HB6).size (fun k e => by injection e; omega)
    have hno7 : ¬ ∃ u q, Rot.IsFile (S.extract 0 J).data.toList u q := by
      have e : (S.extract 0 J).data.toList = S.data.toList.take J := by rw [ByteArray.data_extract]; simp
      rw [e]
      exact spoilt_cut (unhide HF) J hJ1 (by omega)
    have hs7 : (S.extract 0 J).size ≤ 4000 := by rw [ByteArray.size_extract]; omega
    generalize hS7 : S.extract 0 J = S7 at hno7 hs7
    have hsrc := src_new w6 S7 _ _ (ints_nil w6) (fun a n c e => by cases e)
    have hld2 := load_bad w6.heap.size S7 _ _ _ hsrc hs7 (fun a n c e => by cases e) (by simp) hno7
    have HB8 : Hid (Below w.heap.size w (w6.alloc (.cells #[.string S7, .slice none 0 0, .int .i64 0] 37))) := (unhide HB7).alloc (unhide HB7).size _
    have hle6 : w.heap.size ≤ w6.heap.size := (unhide HB7).size
    clear hld hG6 hsrc hno7 HB6 HB7 hcv2
    go_wp2_with fail
    refine hld2.mono ?_
    rintro e w7 ⟨rfl, hG7⟩
    have HB9 : Hid (Below w.heap.size w w7) := (unhide HB8).grown hG7 (unhide HB8).size (fun k e => by injection e; omega)
    have hle7 : w.heap.size ≤ w7.heap.size := (unhide HB9).size
    clear hld2 hG7 HB8
    by_cases hm0 : m4.size = 0
    · have hme : (m4.toList == []) = true := by
        have : m4.toList = [] := by
          apply List.eq_nil_of_length_eq_zero
          rw [ByteArray.toList_eq]
          simpa using hm0
        rw [this]; rfl
      go_wp2_with fail
      go_ret
      exact ⟨rfl, unhide HB9⟩
    have hme : (m4.toList == []) = false := by
      rw [beq_eq_false_iff_ne]
      intro e
      rw [ByteArray.toList_eq] at e
      have e3 : m4.data.toList.length = m4.size := by simp
      rw [e] at e3
      exact hm0 e3.symm
    by_cases hbig : 4000 < S.size + m4.size
    · have hdl : decide ((4000 : Int) < (S.size : Int) + (m4.size : Int)) = true := by simp; omega
      go_wp2_with fail
      go_ret
      exact ⟨rfl, unhide HB9⟩
    have hdl : decide ((4000 : Int) < (S.size : Int) + (m4.size : Int)) = false := by simp; omega
    have hno9 : ¬ ∃ u q, Rot.IsFile (S ++ m4).data.toList u q := by
      have e : (S ++ m4).data.toList = S.data.toList ++ m4.data.toList := by rw [ByteArray.data_append]; simp
      rw [e]
      refine spoilt_more (unhide HF) _ ?_
      intro e2
      have e3 : m4.data.toList.length = m4.size := by simp
      rw [e2] at e3
      exact hm0 e3.symm
    have hs9 : (S ++ m4).size ≤ 4000 := by rw [ByteArray.size_append]; omega
    generalize hS9 : S ++ m4 = S9 at hno9 hs9
    have hsrc := src_new w7 S9 _ _ (ints_nil w7) (fun a n c e => by cases e)
    have hld3 := load_bad w7.heap.size S9 _ _ _ hsrc hs9 (fun a n c e => by cases e) (by simp) hno9
    have HB10 : Hid (Below w.heap.size w (w7.alloc (.cells #[.string S9, .slice none 0 0, .int .i64 0] 37))) := (unhide HB9).alloc (unhide HB9).size _
    clear hsrc hno9 HB9 hm0 hbig
    go_wp2_with fail
    refine hld3.mono ?_
    rintro e w8 ⟨rfl, hG8⟩
    have HB11 : Hid (Below w.heap.size w w8) := (unhide HB10).grown hG8 (unhide HB10).size (fun k e => by injection e; omega)
    clear hld3 hG8 HB10
    go_wp2_with fail
    go_ret
    exact ⟨rfl, unhide HB11⟩
end Go.Proofs.YthlincikgdblfaaGreat

namespace Go.Proofs.YthlincikgdblfaaGreat.spoilt
open Go.ChangeShapes Go.WideShapes Go.ChangeAt Go.RowKit
open Go.ChangeMaps (open_string shut_string)
set_option linter.unusedVariables false

set_option maxRecDepth 100000 in
theorem lifted (os : Os) (started : os.Started) (H : Type) (enc : TypeId × Value → H) :
    ReturnsInHanded {} Tryz.checked os 7 .any (Rows.spoiltSpec.pre6 enc Tryz.prog Tryz.f7 Rows.spoiltRow.domain false) (Rows.spoiltSpec.post enc Tryz.prog Tryz.f7 false true false false) := by
  refine returnsInHanded_of_change_sized (C := Tryz.checked) own0 started (by kernel_rfl) Tryz.func7
    (ChangeSpec.witness6 (enc := enc) (C := Tryz.checked) false ⟨#[], #[.string ByteArray.empty, .int .i64 0, .int .i64 0, .int .i64 0, .string ByteArray.empty], []⟩ 8 (by kernel_rfl) (by kernel_rfl) (by kernel_rfl) (by kernel_rfl)) ?_
  intro W base args ds gs before hval0 hW hcnd hsz0 _
  have hval : ∀ (j : Nat) t v, Tryz.f7.params[j]? = some t → args[j]? = some v → Value.okWide Tryz.prog W .any base t v := hval0
  have hsz : (DataW.weightsEach Tryz.prog (Tryz.f7.params.toList ++ Rows.spoiltSpec.plain.varTypes Tryz.prog) (ds ++ gs)).all (· ≤ reachBytes) = true := hsz0
  have hW' := hW
  obtain ⟨p, q, hA0, hV, rfl, hfz, hnd⟩ := hW
  have hA : DataW.TrodAll enc Tryz.prog W 0 (fun _ => true) true Tryz.f7.params.toList args.toList ds p := hA0
  rw [Tryz.params7] at hA hval hsz
  obtain ⟨v0, vs0, d0, ds0, p0, q0, hargs, rfl, rfl, h0, r0⟩ := trodAll_cons hA
  obtain ⟨v1, vs1, d1, ds1, p1, q1, rfl, rfl, rfl, h1, r1⟩ := trodAll_cons r0
  obtain ⟨v2, vs2, d2, ds2, p2, q2, rfl, rfl, rfl, h2, r2⟩ := trodAll_cons r1
  obtain ⟨v3, vs3, d3, ds3, p3, q3, rfl, rfl, rfl, h3, r3⟩ := trodAll_cons r2
  obtain ⟨v4, vs4, d4, ds4, p4, q4, rfl, rfl, rfl, h4, r4⟩ := trodAll_cons r3
  obtain ⟨rfl, rfl, rfl⟩ := trodAll_nil r4
  obtain rfl : args = #[v0, v1, v2, v3, v4] := by cases args; simp_all
  obtain ⟨rfl, rfl⟩ := trodVars_none hV
  obtain ⟨a0, rfl, rfl, rfl, w0⟩ := open_string Tryz.underlying9 (hval 0 9 v0 rfl rfl) h0
  obtain ⟨a1, rfl, rfl, rfl, w1⟩ := open_int Tryz.underlying3 (hval 1 3 v1 rfl rfl) h1
  obtain ⟨a2, rfl, rfl, rfl, w2⟩ := open_int Tryz.underlying3 (hval 2 3 v2 rfl rfl) h2
  obtain ⟨a3, rfl, rfl, rfl, w3⟩ := open_int Tryz.underlying3 (hval 3 3 v3 rfl rfl) h3
  obtain ⟨a4, rfl, rfl, rfl, w4⟩ := open_string Tryz.underlying9 (hval 4 9 v4 rfl rfl) h4
  have hb0 : a0.size ≤ 140737488351232 := by
    have := sized_string hsz (j := 0) (t := 9) rfl rfl
    have e : a0.data.toList.length = a0.size := by simp
    simp only [reachBytes] at this
    omega
  have hb4 : a4.size ≤ 140737488351232 := by
    have := sized_string hsz (j := 4) (t := 9) rfl rfl
    have e : a4.data.toList.length = a4.size := by simp
    simp only [reachBytes] at this
    omega
  clear hA0 hval0 hsz hsz0
  refine (spoilt_walk a0 a1 a2 a3 a4 w0 (bounds_i64 w1) (bounds_i64 w2) (bounds_i64 w3) (by omega) W).mono fun e W' ⟨he, bel⟩ => ?_
  subst he
  exact ⟨_, rfl, _, _, _, [], _, [], hW', trodAll_mk1 (shut_bool Tryz.underlying4 _), (trodAll_cons_mk (shut_string Tryz.underlying9 w0) (trodAll_cons_mk (shut_int Tryz.underlying3 w1) (trodAll_cons_mk (shut_int Tryz.underlying3 w2) (trodAll_cons_mk (shut_int Tryz.underlying3 w3) (trodAll_cons_mk (shut_string Tryz.underlying9 w4) trodAll_mk0))))), rfl, bel.frame _, fun h => by cases h⟩

theorem over : Rows.spoiltRow.holds Tryz.pinned (OpenSpec.ofChange Rows.spoiltSpec) :=
  OpenClaim.holds_of_wide 7 Tryz.f7 rfl rfl rfl rfl rfl rfl rfl ⟨rfl, rfl, rfl, rfl, rfl⟩ rfl rfl rfl rfl rfl (by kernel_rfl) Tryz.func7 (by kernel_rfl)
    (of_decide_eq_true (by kernel_rfl)) (by unfold Func.isWrapper; first | (rw [if_pos (by decide +kernel)]; kernel_rfl) | (rw [if_neg (by decide +kernel)]; exact ⟨rfl, rfl⟩))
    (fun os started H enc _ => lifted os started H enc)
end Go.Proofs.YthlincikgdblfaaGreat.spoilt
namespace Go.Proofs.YthlincikgdblfaaGreat
theorem spoilt_holds : Rows.SpoiltSaid := spoilt.over
#print axioms spoilt_holds
end Go.Proofs.YthlincikgdblfaaGreat
