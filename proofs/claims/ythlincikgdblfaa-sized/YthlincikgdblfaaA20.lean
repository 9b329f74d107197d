import Derived.Test.YthlincikgdblfaaA19
import Derived.Deep.Cut
namespace Go.Proofs.Ythlincikgdblfaa
open Go.RowKit
set_option linter.unusedVariables false

theorem index_of (x : ByteArray) (F : List UInt8) (hx : (⟨F.toArray⟩ : ByteArray) = x) (k : Nat) (b : UInt8) (v : Int) (hk : F[k]? = some b) (hv : v = (b.toNat : Int)) (w : World) :
    (Instr.index 9 (.string x) (.int .i64 (k : Int))).run Try.prog w = .ok (.int .u8 v) w := by
  subst hx hv
  have hlt : k < F.length := (List.getElem?_eq_some_iff.1 hk).1
  have h0 : (0 : Int) ≤ (k : Int) := by omega
  have hg : (⟨F.toArray⟩ : ByteArray)[k]? = some b := by
    rw [getElem?_pos _ _ (by simpa [ByteArray.size] using hlt)]
    have := (List.getElem?_eq_some_iff.1 hk).2
    simpa [ByteArray.getElem_eq_getElem_data] using this
  simp [Instr.index, run_underlying Try.underlying9, asIntOf, hg, go_sem]
theorem head_at (t : List UInt8) (rows : List Nat) (r k : Nat) (hk : k < 12) : (Rot.fileOf t rows r)[k]? = (Rot.headOf t.length r (12 + (Rot.tableOf (Rot.sectionsOf t rows r)).length + (Rot.bodyOf (Rot.sectionsOf t rows r)).length))[k]? := by
  unfold Rot.fileOf
  have hh : ∀ a b c, (Rot.headOf a b c).length = 12 := by intro a b c; simp [Rot.headOf, Rot.le16, Rot.le32]
  rw [List.append_assoc, List.getElem?_append_left (by rw [hh]; exact hk)]

set_option maxRecDepth 100000 in
set_option maxHeartbeats 2000000 in
theorem sized_walk (a0 : ByteArray) (a1 : Int) (h0 : a0.size ≤ maxLen) (h1 : -9223372036854775808 ≤ a1) (h2 : a1 ≤ 9223372036854775807) (w : World) :
    Calls Try.prog 4 #[.string a0, .int .i64 a1] w fun e w' => e = .returned (.bool true) ∧ Below w.heap.size w w' := by
  have hr := rate_is a1
  have hcs := cut_size a0
  have hcon0 := fun W => cut_any a0 W h0
  have hcon1 := fun W => krate_any a1 W h1 h2
  have hcon2 := fun W => built_any (cutOf a0) (rateOf a1) W hcs (isRate_rateOf a1)
  generalize cutOf a0 = t at hcs hcon0 hcon2
  generalize rateOf a1 = r at hr hcon1 hcon2
  go_enter Try.func4, Try.ntmps4
  go_wp2_with fail
  refine (hcon0 _).mono ?_
  rintro e w1 ⟨rfl, hw⟩
  subst hw
  go_wp2_with fail
  refine (hcon1 _).mono ?_
  rintro e w1 ⟨rfl, hw⟩
  subst hw
  go_wp2_with fail
  refine (hcon2 _).mono ?_
  rintro e w2 ⟨rows, hR, rfl, hB⟩
  clear hcon0 hcon1 hcon2
  have hl := Rot.file_size hR r (by omega)
  have hsz := Rot.size_le t.data.toList.length r (by simpa using hcs)
  generalize hF : Rot.fileOf t.data.toList rows r = F at hl
  have hx1 : (⟨F.toArray⟩ : ByteArray).size = F.length := by simp [ByteArray.size]
  generalize hx : (⟨F.toArray⟩ : ByteArray) = x at hx1
  have hr1 : 1 ≤ r := by omega
  have hr2 : r ≤ 8 := by omega
  have hr0 : ((r : Int) == 0) = false := by simp; omega
  have HX := hide hx
  have HF := hide hF
  have HL := hide hl
  have HR := hide hR
  have HX1 := hide hx1
  have HB := hide hB
  have HRR := hide hr
  have hxs : x.size ≤ 2000 := by omega
  have hxs2 : 577 ≤ x.size := by omega
  obtain ⟨q, hq⟩ : ∃ q : Nat, q = t.size / r := ⟨_, rfl⟩
  have hq2 : q ≤ 250 := by rw [hq]; exact Nat.le_trans (Nat.div_le_self _ _) hcs
  have hqi : (t.size : Int) / (r : Int) = (q : Int) := by rw [hq]; simp
  have HQ := hide hq
  clear hx hF hl hR hx1 hB hr hsz hq
  go_upto_region 12 with fail
  have hE : (44 + 8 * (2 + ((t.size : Int) + 7) / 8 + 2 * (((t.size : Int) + 15) / 16)) + 512 + (((t.size : Int) + 1 + 7) / 8 + 2 * (((t.size : Int) + 1 + 15) / 16)) + 2 * ((q : Int) + 1)) = (x.size : Int) := by
    rw [unhide HX1, (unhide HL).1]
    unfold Rot.sizeOf
    have e1 : t.data.toList.length = t.size := by simp
    rw [e1, ← unhide HQ]
    omega
  rw [hE]
  clear hE hqi
  have HD : ∀ k, k < 12 → F[k]? = (Rot.headOf t.data.toList.length r (Rot.sizeOf t.data.toList.length r))[k]? := by
    intro k hk
    rw [← unhide HF, head_at _ _ _ _ hk, (Rot.file_size (unhide HR) r hr1).2]
  have hts : t.data.toList.length = t.size := by simp
  have hxz : Rot.sizeOf t.size r = x.size := by rw [unhide HX1, (unhide HL).1, hts]
  rw [hts, hxz] at HD
  have hby : ∀ n : Nat, n < 256 → (n : Int) = ((UInt8.ofNat n).toNat : Int) := by intro n hn; rw [UInt8.toNat_ofNat']; omega
  have hi4 : ∀ w, (Instr.index 9 (.string x) (.int .i64 4)).run Try.prog w = .ok (.int .u8 (t.size : Int)) w := index_of x F (unhide HX) 4 (UInt8.ofNat t.size) (t.size : Int) (HD 4 (by decide)) (hby _ (by omega))
  have hi5 : ∀ w, (Instr.index 9 (.string x) (.int .i64 5)).run Try.prog w = .ok (.int .u8 0) w := index_of x F (unhide HX) 5 (UInt8.ofNat (t.size / 256)) 0 (HD 5 (by decide)) (by rw [← hby _ (by omega)]; omega)
  have hi6 : ∀ w, (Instr.index 9 (.string x) (.int .i64 6)).run Try.prog w = .ok (.int .u8 (r : Int)) w := index_of x F (unhide HX) 6 (UInt8.ofNat r) (r : Int) (HD 6 (by decide)) (hby _ (by omega))
  have hi7 : ∀ w, (Instr.index 9 (.string x) (.int .i64 7)).run Try.prog w = .ok (.int .u8 5) w := index_of x F (unhide HX) 7 5 5 (HD 7 (by decide)) rfl
  have hi8 : ∀ w, (Instr.index 9 (.string x) (.int .i64 8)).run Try.prog w = .ok (.int .u8 ((x.size : Int) % 256)) w := index_of x F (unhide HX) 8 (UInt8.ofNat x.size) ((x.size : Int) % 256) (HD 8 (by decide)) (byte_of _)
  have hi9 : ∀ w, (Instr.index 9 (.string x) (.int .i64 9)).run Try.prog w = .ok (.int .u8 ((x.size : Int) / 256)) w := index_of x F (unhide HX) 9 (UInt8.ofNat (x.size / 256)) ((x.size : Int) / 256) (HD 9 (by decide)) (by rw [← hby _ (by omega)]; omega)
  have hi10 : ∀ w, (Instr.index 9 (.string x) (.int .i64 10)).run Try.prog w = .ok (.int .u8 0) w := index_of x F (unhide HX) 10 (UInt8.ofNat (x.size / 65536)) 0 (HD 10 (by decide)) (by rw [← hby _ (by omega)]; omega)
  have hi11 : ∀ w, (Instr.index 9 (.string x) (.int .i64 11)).run Try.prog w = .ok (.int .u8 0) w := index_of x F (unhide HX) 11 (UInt8.ofNat (x.size / 16777216)) 0 (HD 11 (by decide)) (by rw [← hby _ (by omega)]; omega)
  have hpre : ((x.extract 0 4).toList == [82, 84, 88, 49]) = true := by
    have e : (x.extract 0 4).toList = [82, 84, 88, 49] := by
      rw [← unhide HX, ByteArray.toList_eq, ByteArray.data_extract]
      have hFF : F.take 4 = [82, 84, 88, 49] := by
        apply List.ext_getElem?
        intro j
        by_cases hj : j < 4
        · rw [List.getElem?_take_of_lt hj, HD j (by omega)]
          match j, hj with
          | 0, _ => rfl
          | 1, _ => rfl
          | 2, _ => rfl
          | 3, _ => rfl
        · rw [List.getElem?_take_eq_none (by omega), List.getElem?_eq_none (by simp; omega)]
      simpa using hFF
    rw [e]; rfl
  clear HD hts hxz hby
  go_wp2_with fail
  have hq1 : ((x.size : Int) % 256 + 256 * ((x.size : Int) / 256) == (x.size : Int)) = true := by
    rw [beq_iff_eq]; omega
  go_quiet (fail)
  go_wp2
  go_ret
  exact ⟨rfl, below_drewN (unhide HB)⟩
end Go.Proofs.Ythlincikgdblfaa
