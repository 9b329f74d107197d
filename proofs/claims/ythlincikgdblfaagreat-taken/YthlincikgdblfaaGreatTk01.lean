import Derived.Test.YthlincikgdblfaaGreatZ42
namespace Go.Proofs.YthlincikgdblfaaGreat
set_option linter.unusedVariables false
open Go.RowKit

set_option maxRecDepth 100000 in
set_option maxHeartbeats 2000000 in
theorem taken_walk (a0 : ByteArray) (a1 : Int) (v2 : Value) (zs : List Int) (a3 a4 : Int) (h0 : a0.size ≤ maxLen) (h1 : -9223372036854775808 ≤ a1 ∧ a1 ≤ 9223372036854775807) (h3 : -9223372036854775808 ≤ a3 ∧ a3 ≤ 9223372036854775807) (h4 : -9223372036854775808 ≤ a4 ∧ a4 ≤ 9223372036854775807) (w : World) (hI : Ints w v2 zs) (hlow : ∀ a n c, v2 = .slice (some a) n c → a.block < w.heap.size ∨ zs = []) (hz : zs.length * 8 ≤ 140737488355328) :
    Calls Tryz.prog 5 #[.string a0, .int .i64 a1, v2, .int .i64 a3, .int .i64 a4] w fun e w' => e = .returned (.bool true) ∧ Below w.heap.size w w' := by
  have hcs := cut_size a0
  have hr := isRate_rateOf a1
  have hr8 : rateOf a1 ≤ 8 := by rcases rate_is a1 with h | h | h | h <;> omega
  have K0 := hide (fun W => cut_any a0 W h0)
  have K1 := hide (fun W => krate_any a1 W h1.1 h1.2)
  have K2 := hide (fun W => built_any (cutOf a0) (rateOf a1) W hcs hr)
  have HI := hide hI
  have HL := hide hlow
  generalize cutOf a0 = t at *
  generalize rateOf a1 = r at *
  have htl : t.data.toList.length = t.size := by simp
  have ha := pick_lt a3 (t.size + 1) (by omega)
  have KA : Hid (∀ W, Calls Tryz.prog 19 #[.int .i64 a3, .int .i64 ((t.size : Int) + 1)] W fun e w' => e = .returned (.int .i64 (pickOf a3 (t.size + 1) : Int)) ∧ w' = W) := hide (fun W => kpick_any a3 (t.size + 1) W h3.1 h3.2 (by omega) (by omega))
  generalize pickOf a3 (t.size + 1) = A at ha KA
  have hq := pick_lt a4 (t.size - A + 1) (by omega)
  have KB : Hid (∀ W, Calls Tryz.prog 19 #[.int .i64 a4, .int .i64 ((t.size : Int) - (A : Int) + 1)] W fun e w' => e = .returned (.int .i64 (pickOf a4 (t.size - A + 1) : Int)) ∧ w' = W) := by
    intro W
    have e : ((t.size : Int) - (A : Int) + 1) = ((t.size - A + 1 : Nat) : Int) := by omega
    rw [e]
    exact kpick_any a4 (t.size - A + 1) W h4.1 h4.2 (by omega) (by omega)
  generalize pickOf a4 (t.size - A + 1) = q at hq KB
  have HR := hide hr
  clear hI hlow hr h0 h1 h3 h4
  go_enter Tryz.func5, Tryz.ntmps5
  go_wp2_with fail
  refine (unhide K0 _).mono ?_
  rintro e w1 ⟨rfl, hw⟩
  replace hw := hw.symm
  subst hw
  go_wp2_with fail
  refine (unhide K1 _).mono ?_
  rintro e w1 ⟨rfl, hw⟩
  replace hw := hw.symm
  subst hw
  go_wp2_with fail
  refine (unhide K2 _).mono ?_
  rintro e w1 ⟨rows, hR, rfl, hB⟩
  have hf := built_file hcs (unhide HR) hR
  generalize (⟨(Rot.fileOf t.data.toList rows r).toArray⟩ : ByteArray) = S at hf ⊢
  have hslow := slow_any v2 zs w1 ((unhide HI).below hB (unhide HL)) hz
  have HF := hide hf
  have HB := hide hB
  clear hR hf hB HI K0 K1 K2
  go_wp2_with fail
  refine hslow.mono ?_
  rintro e w2 ⟨v', rfl, hIs, hG2⟩
  obtain ⟨x', n', c', hv'⟩ := is_shape hIs
  subst hv'
  have hsrc := src_new w2 S _ _ (ints_of_is hIs (slow_bound zs) (by rw [slow_len]; omega)) (is_low hIs)
  have hld := load_file w2.heap.size S _ _ t.data.toList r _ hsrc (fun a n c e => by have := is_low hIs a n c e; simp; omega) (unhide HF) (slow_pos zs)
  have HB2 : Hid (Below w.heap.size w (w2.alloc (.cells #[.string S, .slice x' n' c', .int .i64 0] 37))) := (below_on (unhide HB) hG2 (Nat.le_refl _)).alloc (Nat.le_trans (unhide HB).size hG2.size) _
  have hle2 : w.heap.size ≤ w2.heap.size := Nat.le_trans (unhide HB).size hG2.size
  clear hslow hIs hG2 hsrc HB
  go_wp2_with fail
  refine hld.mono ?_
  rintro e w4 ⟨p, k, rfl, hS4, hG4, hidx⟩
  have HB4 : Hid (Below w.heap.size w w4) := (unhide HB2).grown hG4 (unhide HB2).size (fun k e => by injection e; omega)
  have HX := hide hidx
  have hlen := len_idx _ _ _ _ _ _ hidx
  have hrate := rate_idx _ _ _ _ _ _ hidx
  rw [htl] at hlen
  clear hld hS4 hG4 hidx HB2
  go_wp2_with fail
  refine hlen.mono ?_
  rintro e w5 ⟨rfl, hw⟩
  subst hw
  clear hlen
  go_wp2_with fail
  refine hrate.mono ?_
  rintro e w5 ⟨rfl, hw⟩
  subst hw
  clear hrate
  go_wp2_with fail
  refine (unhide KA _).mono ?_
  rintro e w5 ⟨rfl, hw⟩
  subst hw
  go_wp2_with fail
  refine (unhide KB _).mono ?_
  rintro e w5 ⟨rfl, hw⟩
  subst hw
  have hall := extract_yes _ p _ _ r 0 t.size w5 (unhide HX) (by omega) (by omega)
  rw [sb_whole] at hall
  go_wp2_with fail
  refine hall.mono ?_
  rintro e w6 ⟨rfl, hG6⟩
  have HX6 := hide ((unhide HX).grown hG6)
  have HB6 := hide (below_on (unhide HB4) hG6 (Nat.le_refl _))
  have hpc := extract_yes _ p _ _ r A (A + q) w6 (unhide HX6) (by omega) (by omega)
  rw [sb_piece] at hpc
  clear hall hG6 HX HB4
  go_wp2_with fail
  refine hpc.mono ?_
  rintro e w7 ⟨rfl, hG7⟩
  have HX7 := hide ((unhide HX6).grown hG7)
  have HB7 := hide (below_on (unhide HB6) hG7 (Nat.le_refl _))
  have hn1 := extract_no _ p _ _ r (A : Int) ((t.size : Int) + 1) w7 (unhide HX7) (by omega)
  have hn2 := extract_no _ p _ _ r (-1) ((A : Int) + (q : Int)) w7 (unhide HX7) (by omega)
  clear hpc hG7 HX6 HB6
  go_wp2_with fail
  refine hn1.mono ?_
  rintro e w8 ⟨rfl, hw⟩
  subst hw
  clear hn1
  go_wp2_with fail
  refine hn2.mono ?_
  rintro e w8 ⟨rfl, hw⟩
  subst hw
  clear hn2
  go_wp2_with fail
  go_ret
  exact ⟨rfl, unhide HB7⟩
end Go.Proofs.YthlincikgdblfaaGreat

namespace Go.Proofs.YthlincikgdblfaaGreat.taken
open Go.ChangeShapes Go.WideShapes Go.ChangeAt Go.RowKit
open Go.ChangeMaps (open_string shut_string)
set_option linter.unusedVariables false

set_option maxRecDepth 100000 in
theorem lifted (os : Os) (started : os.Started) (H : Type) (enc : TypeId × Value → H) :
    ReturnsInHanded {} Tryz.checked os 5 .any (Rows.takenSpec.pre6 enc Tryz.prog Tryz.f5 Rows.takenRow.domain false) (Rows.takenSpec.post enc Tryz.prog Tryz.f5 false true false false) := by
  refine returnsInHanded_of_change_sized (C := Tryz.checked) own0 started (by kernel_rfl) Tryz.func5
    (ChangeSpec.witness6 (enc := enc) (C := Tryz.checked) false ⟨#[], #[.string ByteArray.empty, .int .i64 0, .slice none 0 0, .int .i64 0, .int .i64 0], []⟩ 8 (by kernel_rfl) (by kernel_rfl) (by kernel_rfl) (by kernel_rfl)) ?_
  intro W base args ds gs before hval0 hW hcnd hsz0 _
  have hval : ∀ (j : Nat) t v, Tryz.f5.params[j]? = some t → args[j]? = some v → Value.okWide Tryz.prog W .any base t v := hval0
  have hsz : (DataW.weightsEach Tryz.prog (Tryz.f5.params.toList ++ Rows.takenSpec.plain.varTypes Tryz.prog) (ds ++ gs)).all (· ≤ reachBytes) = true := hsz0
  have hW' := hW
  obtain ⟨p, q, hA0, hV, rfl, hfz, hnd⟩ := hW
  have hA : DataW.TrodAll enc Tryz.prog W 0 (fun _ => true) true Tryz.f5.params.toList args.toList ds p := hA0
  rw [Tryz.params5] at hA hval hsz
  obtain ⟨v0, vs0, d0, ds0, p0, q0, hargs, rfl, rfl, h0, r0⟩ := trodAll_cons hA
  obtain ⟨v1, vs1, d1, ds1, p1, q1, rfl, rfl, rfl, h1, r1⟩ := trodAll_cons r0
  obtain ⟨v2, vs2, d2, ds2, p2, q2, rfl, rfl, rfl, h2, r2⟩ := trodAll_cons r1
  obtain ⟨v3, vs3, d3, ds3, p3, q3, rfl, rfl, rfl, h3, r3⟩ := trodAll_cons r2
  obtain ⟨v4, vs4, d4, ds4, p4, q4, rfl, rfl, rfl, h4, r4⟩ := trodAll_cons r3
  obtain ⟨rfl, rfl, rfl⟩ := trodAll_nil r4
  obtain rfl : args = #[v0, v1, v2, v3, v4] := by cases args; simp_all
  obtain ⟨rfl, rfl⟩ := trodVars_none hV
  obtain ⟨a0, rfl, rfl, rfl, w0⟩ := open_string Tryz.underlying9 (hval 0 9 v0 rfl rfl) h0
  obtain ⟨a1, rfl, rfl, rfl, w1⟩ := open_int Tryz.underlying3 (hval 1 3 v1 rfl rfl) h1
  obtain ⟨x2, l2, c2, e2⟩ := okWide_slice Tryz.underlying25 (hval 2 25 v2 rfl rfl)
  obtain ⟨a3, rfl, rfl, rfl, w3⟩ := open_int Tryz.underlying3 (hval 3 3 v3 rfl rfl) h3
  obtain ⟨a4, rfl, rfl, rfl, w4⟩ := open_int Tryz.underlying3 (hval 4 3 v4 rfl rfl) h4
  have k2 := h2
  have lt2 : ∀ x ∈ p2, x.block < W.heap.size := by obtain ⟨m, hm⟩ := k2; exact DataW.trod_lt m _ _ _ hm
  obtain ⟨zs, hI, hlow, hd⟩ : ∃ zs : List Int, Ints W v2 zs ∧ (∀ a n c, v2 = .slice (some a) n c → a.block < W.heap.size ∨ zs = []) ∧ (zs = [] ∨ ∃ e s, d2 = .slice e s ∧ e.length = zs.length) := by
    obtain ⟨fuel, hf⟩ := h2
    exact open_list e2 hf
  have hz : zs.length * 8 ≤ 140737488355328 := by
    rcases hd with rfl | ⟨e, s, rfl, hel⟩
    · simp
    · have := sized_slice hsz (j := 2) (t := 25) (e := 3) rfl rfl Tryz.underlying25
      rw [bytes_int, hel] at this
      simp only [reachBytes] at this
      omega
  clear hA0 hval0 hsz hsz0
  refine (taken_walk a0 a1 v2 zs a3 a4 w0 (bounds_i64 w1) (bounds_i64 w3) (bounds_i64 w4) W hI hlow hz).mono fun e W' ⟨he, bel⟩ => ?_
  subst he
  exact ⟨_, rfl, _, _, _, [], _, [], hW', trodAll_mk1 (shut_bool Tryz.underlying4 _), (trodAll_cons_mk (shut_string Tryz.underlying9 w0) (trodAll_cons_mk (shut_int Tryz.underlying3 w1) (trodAll_cons_mk (Below.trod laidOut0 (by kernel_rfl) (of_decide_eq_true (by kernel_rfl)) k2 bel lt2) (trodAll_cons_mk (shut_int Tryz.underlying3 w3) (trodAll_cons_mk (shut_int Tryz.underlying3 w4) trodAll_mk0))))), rfl, bel.frame _, fun h => by cases h⟩

theorem over : Rows.takenRow.holds Tryz.pinned (OpenSpec.ofChange Rows.takenSpec) :=
  OpenClaim.holds_of_wide 5 Tryz.f5 rfl rfl rfl rfl rfl rfl rfl ⟨rfl, rfl, rfl, rfl, rfl⟩ rfl rfl rfl rfl rfl (by kernel_rfl) Tryz.func5 (by kernel_rfl)
    (of_decide_eq_true (by kernel_rfl)) (by unfold Func.isWrapper; first | (rw [if_pos (by decide +kernel)]; kernel_rfl) | (rw [if_neg (by decide +kernel)]; exact ⟨rfl, rfl⟩))
    (fun os started H enc _ => lifted os started H enc)
end Go.Proofs.YthlincikgdblfaaGreat.taken
namespace Go.Proofs.YthlincikgdblfaaGreat
theorem taken_holds : Rows.TakenSaid := taken.over
#print axioms taken_holds
end Go.Proofs.YthlincikgdblfaaGreat
