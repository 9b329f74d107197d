import Derived.Test.YthlincikgdblfaaGreatZ42
namespace Go.Proofs.YthlincikgdblfaaGreat
set_option linter.unusedVariables false
open Go.RowKit

/-- A file is the file that is built of its text. -/
theorem file_is {b t : List UInt8} {r : Nat} {rows : List Nat} (h : Rot.IsFile b t r) (hR : Rot.IsRows t rows) : Rot.fileOf t rows r = b := by
  obtain ⟨_, _, rows', hR', e⟩ := h
  rw [e, Rot.rows_unique hR hR']
theorem sb_eq {S : ByteArray} {l : List UInt8} (h : l = S.data.toList) : (⟨l.toArray⟩ : ByteArray) = S := by
  rw [h]
set_option maxRecDepth 100000 in
set_option maxHeartbeats 2000000 in
theorem only_walk (b0 : ByteArray) (v1 : Value) (zs : List Int) (a2 : ByteArray) (a3 : Int) (hb0 : b0.size ≤ 4611686018427387904) (h2 : a2.size ≤ maxLen) (h3 : -9223372036854775808 ≤ a3 ∧ a3 ≤ 9223372036854775807) (w : World) (hI : Ints w v1 zs) (hlow : ∀ a n c, v1 = .slice (some a) n c → a.block < w.heap.size ∨ zs = []) (hz : zs.length * 8 ≤ 140737488355328) :
    Calls Tryz.prog 6 #[.string b0, v1, .string a2, .int .i64 a3] w fun e w' => e = .returned (.bool true) ∧ Below w.heap.size w w' := by
  have hcs := cut_size a2
  have hr := isRate_rateOf a3
  have K0 := hide (fun W => cut_any a2 W h2)
  have K1 := hide (fun W => krate_any a3 W h3.1 h3.2)
  have K2 := hide (fun W => built_any (cutOf a2) (rateOf a3) W hcs hr)
  have HI := hide hI
  have HL := hide hlow
  generalize cutOf a2 = t at *
  generalize rateOf a3 = r at *
  have HR := hide hr
  clear hI hlow hr h2 h3
  go_enter Tryz.func6, Tryz.ntmps6
  go_wp2_with fail
  refine (unhide K0 _).mono ?_
  rintro e w1 ⟨rfl, hw⟩
  replace hw := hw.symm
  subst hw
  go_wp2_with fail
  refine (unhide K1 _).mono ?_
  rintro e w1 ⟨rfl, hw⟩
  replace hw := hw.symm
  subst hw
  go_wp2_with fail
  refine (unhide K2 _).mono ?_
  rintro e w1 ⟨rows, hR, rfl, hB⟩
  have hf := built_file hcs (unhide HR) hR
  generalize (⟨(Rot.fileOf t.data.toList rows r).toArray⟩ : ByteArray) = S at hf ⊢
  have hsrc := src_new w1 S _ _ (ints_nil w1) (fun a n c e => by cases e)
  have hld := load_file w1.heap.size S _ _ t.data.toList r _ hsrc (fun a n c e => by cases e) hf (by simp)
  have HB : Hid (Below w.heap.size w (w1.alloc (.cells #[.string S, .slice none 0 0, .int .i64 0] 37))) := hB.alloc hB.size _
  have hle1 : w.heap.size ≤ w1.heap.size := hB.size
  clear hR hf hB hsrc K0 K1 K2
  go_wp2_with fail
  refine hld.mono ?_
  rintro e w2 ⟨p, k, rfl, hS2, hG2, hidx⟩
  have HB2 : Hid (Below w.heap.size w w2) := (unhide HB).grown hG2 (unhide HB).size (fun k e => by injection e; omega)
  have hI2 : Ints w2 v1 zs := (unhide HI).below (unhide HB2) (unhide HL)
  have hslow := slow_any v1 zs w2 hI2 hz
  clear hld hS2 hG2 hidx hI2 HI HB
  go_wp2_with fail
  refine hslow.mono ?_
  rintro e w3 ⟨v', rfl, hIs, hG3⟩
  obtain ⟨x', n', c', hv'⟩ := is_shape hIs
  subst hv'
  have hsrc := src_new w3 b0 _ _ (ints_of_is hIs (slow_bound zs) (by rw [slow_len]; omega)) (is_low hIs)
  have hlw : ∀ a n c, Value.slice x' n' c' = .slice (some a) n c → a.block < (w3.alloc (.cells #[.string b0, .slice x' n' c', .int .i64 0] 37)).heap.size := fun a n c e => by have := is_low hIs a n c e; simp; omega
  have HB3 : Hid (Below w.heap.size w (w3.alloc (.cells #[.string b0, .slice x' n' c', .int .i64 0] 37))) := (below_on (unhide HB2) hG3 (Nat.le_refl _)).alloc (Nat.le_trans (unhide HB2).size hG3.size) _
  have hle3 : w.heap.size ≤ w3.heap.size := Nat.le_trans (unhide HB2).size hG3.size
  by_cases hbig : 4000 < b0.size
  · have hld := load_large _ _ _ _ _ hsrc hbig hb0 hlw
    have hdl : decide ((4000 : Int) < (b0.size : Int)) = true := by simp; omega
    clear hslow hIs hG3 hsrc hlw HB2
    go_wp2_with fail
    refine hld.mono ?_
    rintro e w4 ⟨rfl, hS4, hG4⟩
    have HB4 := hide (below_on (unhide HB3) hG4 (Nat.le_refl _))
    clear hld hS4 hG4 HB3
    go_wp2_with fail
    go_ret
    exact ⟨rfl, unhide HB4⟩
  have hld := load_bytes _ _ _ _ _ hsrc (by omega) hlw (slow_pos zs)
  have hdl : decide ((4000 : Int) < (b0.size : Int)) = false := by simp; omega
  clear hslow hIs hG3 hsrc hlw HB2
  go_wp2_with fail
  refine hld.mono ?_
  rintro e w4 ⟨hG4, (⟨rfl, hno⟩ | ⟨p4, u, q, rfl, hidx⟩)⟩
  · have HB4 : Hid (Below w.heap.size w w4) := (unhide HB3).grown hG4 (unhide HB3).size (fun k e => by injection e; omega)
    clear hld hG4 HB3 hno
    go_wp2_with fail
    go_ret
    exact ⟨rfl, unhide HB4⟩
  have HB4 : Hid (Below w.heap.size w w4) := (unhide HB3).grown hG4 (unhide HB3).size (fun k e => by injection e; omega)
  have hlen := len_idx _ _ _ _ _ _ hidx
  have hul : u.length ≤ 250 := hidx.1.1
  have hqr : isRate (q : Int) = true := hidx.1.2.1
  have hq8 := Rot.rate_le hqr
  have hex := extract_yes _ p4 _ _ q 0 u.length w4 hidx (by omega) (Nat.le_refl _)
  rw [List.drop_zero, Nat.sub_zero, List.take_length] at hex
  have HX := hide hidx
  have HQ := hide hqr
  clear hld hG4 HB3 hidx hqr
  go_wp2_with fail
  refine hlen.mono ?_
  rintro e w5 ⟨rfl, hw⟩
  subst hw
  clear hlen
  go_wp2_with fail
  refine hex.mono ?_
  rintro e w6 ⟨rfl, hG6⟩
  have HX6 := hide ((unhide HX).grown hG6)
  have HB6 := hide (below_on (unhide HB4) hG6 (Nat.le_refl _))
  have hrt := rate_idx _ _ _ _ _ _ (unhide HX6)
  clear hex hG6 HX HB4
  go_wp2_with fail
  refine hrt.mono ?_
  rintro e w7 ⟨rfl, hw⟩
  subst hw
  have hbd := build_yes (Sb u) q w7 (by rw [Sb_size]; exact hul) (unhide HQ)
  clear hrt
  go_wp2_with fail
  refine hbd.mono ?_
  rintro e w8 ⟨rows8, hR8, rfl, hB8⟩
  rw [Sb_toList] at hR8
  have e8 : (⟨(Rot.fileOf (Sb u).data.toList rows8 q).toArray⟩ : ByteArray) = b0 := by
    rw [Sb_toList]
    exact sb_eq (file_is (unhide HX6).1 hR8)
  rw [e8]
  have HB8 := hide ((unhide HB6).trans (hB8.mono (unhide HB6).size))
  clear hbd hR8 e8 hB8 HB6 HX6
  go_wp2_with fail
  go_ret
  exact ⟨rfl, unhide HB8⟩
end Go.Proofs.YthlincikgdblfaaGreat

namespace Go.Proofs.YthlincikgdblfaaGreat.only
open Go.ChangeShapes Go.WideShapes Go.ChangeAt Go.RowKit
open Go.ChangeMaps (open_string shut_string)
set_option linter.unusedVariables false

set_option maxRecDepth 100000 in
theorem lifted (os : Os) (started : os.Started) (H : Type) (enc : TypeId × Value → H) :
    ReturnsInHanded {} Tryz.checked os 6 .any (Rows.onlySpec.pre6 enc Tryz.prog Tryz.f6 Rows.onlyRow.domain false) (Rows.onlySpec.post enc Tryz.prog Tryz.f6 false true false false) := by
  refine returnsInHanded_of_change_sized (C := Tryz.checked) own0 started (by kernel_rfl) Tryz.func6
    (ChangeSpec.witness6 (enc := enc) (C := Tryz.checked) false ⟨#[], #[.string ByteArray.empty, .slice none 0 0, .string ByteArray.empty, .int .i64 0], []⟩ 8 (by kernel_rfl) (by kernel_rfl) (by kernel_rfl) (by kernel_rfl)) ?_
  intro W base args ds gs before hval0 hW hcnd hsz0 _
  have hval : ∀ (j : Nat) t v, Tryz.f6.params[j]? = some t → args[j]? = some v → Value.okWide Tryz.prog W .any base t v := hval0
  have hsz : (DataW.weightsEach Tryz.prog (Tryz.f6.params.toList ++ Rows.onlySpec.plain.varTypes Tryz.prog) (ds ++ gs)).all (· ≤ reachBytes) = true := hsz0
  have hW' := hW
  obtain ⟨p, q, hA0, hV, rfl, hfz, hnd⟩ := hW
  have hA : DataW.TrodAll enc Tryz.prog W 0 (fun _ => true) true Tryz.f6.params.toList args.toList ds p := hA0
  rw [Tryz.params6] at hA hval hsz
  obtain ⟨v0, vs0, d0, ds0, p0, q0, hargs, rfl, rfl, h0, r0⟩ := trodAll_cons hA
  obtain ⟨v1, vs1, d1, ds1, p1, q1, rfl, rfl, rfl, h1, r1⟩ := trodAll_cons r0
  obtain ⟨v2, vs2, d2, ds2, p2, q2, rfl, rfl, rfl, h2, r2⟩ := trodAll_cons r1
  obtain ⟨v3, vs3, d3, ds3, p3, q3, rfl, rfl, rfl, h3, r3⟩ := trodAll_cons r2
  obtain ⟨rfl, rfl, rfl⟩ := trodAll_nil r3
  obtain rfl : args = #[v0, v1, v2, v3] := by cases args; simp_all
  obtain ⟨rfl, rfl⟩ := trodVars_none hV
  obtain ⟨a0, rfl, rfl, rfl, w0⟩ := open_string Tryz.underlying9 (hval 0 9 v0 rfl rfl) h0
  obtain ⟨x1, l1, c1, e1⟩ := okWide_slice Tryz.underlying25 (hval 1 25 v1 rfl rfl)
  obtain ⟨a2, rfl, rfl, rfl, w2⟩ := open_string Tryz.underlying9 (hval 2 9 v2 rfl rfl) h2
  obtain ⟨a3, rfl, rfl, rfl, w3⟩ := open_int Tryz.underlying3 (hval 3 3 v3 rfl rfl) h3
  have k1 := h1
  have lt1 : ∀ x ∈ p1, x.block < W.heap.size := by obtain ⟨m, hm⟩ := k1; exact DataW.trod_lt m _ _ _ hm
  obtain ⟨zs, hI, hlow, hd⟩ : ∃ zs : List Int, Ints W v1 zs ∧ (∀ a n c, v1 = .slice (some a) n c → a.block < W.heap.size ∨ zs = []) ∧ (zs = [] ∨ ∃ e s, d1 = .slice e s ∧ e.length = zs.length) := by
    obtain ⟨fuel, hf⟩ := h1
    exact open_list e1 hf
  have hz : zs.length * 8 ≤ 140737488355328 := by
    rcases hd with rfl | ⟨e, s, rfl, hel⟩
    · simp
    · have := sized_slice hsz (j := 1) (t := 25) (e := 3) rfl rfl Tryz.underlying25
      rw [bytes_int, hel] at this
      simp only [reachBytes] at this
      omega
  have hb0 : a0.size ≤ 4611686018427387904 := by
    have := sized_string hsz (j := 0) (t := 9) rfl rfl
    have e : a0.data.toList.length = a0.size := by simp
    simp only [reachBytes] at this
    omega
  clear hA0 hval0 hsz hsz0
  refine (only_walk a0 v1 zs a2 a3 hb0 w2 (bounds_i64 w3) W hI hlow hz).mono fun e W' ⟨he, bel⟩ => ?_
  subst he
  exact ⟨_, rfl, _, _, _, [], _, [], hW', trodAll_mk1 (shut_bool Tryz.underlying4 _), (trodAll_cons_mk (shut_string Tryz.underlying9 w0) (trodAll_cons_mk (Below.trod laidOut0 (by kernel_rfl) (of_decide_eq_true (by kernel_rfl)) k1 bel lt1) (trodAll_cons_mk (shut_string Tryz.underlying9 w2) (trodAll_cons_mk (shut_int Tryz.underlying3 w3) trodAll_mk0)))), rfl, bel.frame _, fun h => by cases h⟩

theorem over : Rows.onlyRow.holds Tryz.pinned (OpenSpec.ofChange Rows.onlySpec) :=
  OpenClaim.holds_of_wide 6 Tryz.f6 rfl rfl rfl rfl rfl rfl rfl ⟨rfl, rfl, rfl, rfl, rfl⟩ rfl rfl rfl rfl rfl (by kernel_rfl) Tryz.func6 (by kernel_rfl)
    (of_decide_eq_true (by kernel_rfl)) (by unfold Func.isWrapper; first | (rw [if_pos (by decide +kernel)]; kernel_rfl) | (rw [if_neg (by decide +kernel)]; exact ⟨rfl, rfl⟩))
    (fun os started H enc _ => lifted os started H enc)
end Go.Proofs.YthlincikgdblfaaGreat.only
namespace Go.Proofs.YthlincikgdblfaaGreat
theorem only_holds : Rows.OnlySaid := only.over
#print axioms only_holds
end Go.Proofs.YthlincikgdblfaaGreat
