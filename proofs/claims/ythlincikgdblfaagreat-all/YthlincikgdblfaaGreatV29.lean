import Derived.Test.YthlincikgdblfaaGreatV28
import Derived.Test.YthlincikgdblfaaGreatV07
import Derived.Deep.RegionWith
import Derived.Deep.DeepCutAuto
namespace Go.Proofs.YthlincikgdblfaaGreat
open Go.RowKit
set_option linter.unusedVariables false

theorem cell_grown {w w' : World} {a : Addr} {v : Value} (h : w.cell? a = some v) (g : w.grownBy w' none) : w'.cell? a = some v :=
  (World.cell?_of_block (g.block a.block (World.block_lt_of_cell? w a h) (by simp))).trans h
theorem conv_two {W w' : World} (r : Nat) (hr : r ≤ 8) (g : (W.alloc (.cells #[.int .u8 (r : Int), .int .u8 5] 5)).grownBy w' none) : (convert 45 9 (.slice (some ⟨W.heap.size, 0, none⟩) 2 2)).run Tryz.prog w' = .ok (.string (Sb [UInt8.ofNat r, 5])) w' := by
  have hc : (#[Value.int .u8 (r : Int), .int .u8 5]).toList = by8 [UInt8.ofNat r, 5] := by
    simp only [by8, List.map_cons, List.map_nil]
    have : (UInt8.ofNat r).toNat = r := by simp; omega
    rw [this]
    rfl
  have := World.ownsRow_lit (base := 0) (e := 5) (size := 1) W #[.int .u8 (r : Int), .int .u8 5] 2 (Nat.zero_le _) (by unfold maxLen; omega) (by simp)
  rw [hc] at this
  exact conv_str (B := 0) (l := [UInt8.ofNat r, 5]) (ownsRow_kept0 this g)
theorem grown_of_drew {w w' : World} {r : Option Nat} (h : w.drew.grownBy w' r) : w.grownBy w' r := ⟨h.os, h.tape, h.output, h.size, h.block⟩
/-- Behind k sections. -/
def BldV (w1 : World) (ss : List (List UInt8)) (tb al i : Value) (wr : World) : Prop := ∃ k : Nat, k ≤ 5 ∧ i = .int .i64 (k : Int) ∧ tb = .string (Sb (Rot.tableOf (ss.take k))) ∧ al = .string (Sb (Rot.bodyOf (ss.take k))) ∧ w1.grownBy wr none
theorem BldV.mk {w1 : World} {ss : List (List UInt8)} {tb al i : Value} {wr : World} (k : Nat) (h1 : k ≤ 5) (h2 : i = .int .i64 (k : Int)) (h3 : tb = .string (Sb (Rot.tableOf (ss.take k)))) (h4 : al = .string (Sb (Rot.bodyOf (ss.take k)))) (h5 : w1.grownBy wr none) : BldV w1 ss tb al i wr := ⟨k, h1, h2, h3, h4, h5⟩

set_option maxRecDepth 100000 in
set_option maxHeartbeats 20000000 in
theorem rbuild_yes (s : ByteArray) (r : Nat) (w : World) (hs : s.size ≤ 250) (h : isRate r = true) :
    Calls Tryz.prog 38 #[.string s, .int .i64 r] w fun e w' => ∃ rows, e = .returned (.tuple #[.string (Sb (Rot.fileOf s.data.toList rows r)), .int .i64 0]) ∧ Rot.IsRows s.data.toList rows ∧ w.grownBy w' none := by
  have hsl : s.data.toList.length = s.size := by simp
  have hr : 1 ≤ r ∧ r ≤ 8 := by
    unfold isRate at h
    simp at h
    omega
  obtain ⟨hr1, hr2⟩ := hr
  have hd : decide (250 < (s.size : Int)) = false := by simp; omega
  go_enter Tryz.func38, Tryz.ntmps38
  go_wp2_with fail
  refine (rrate_any r _).mono ?_
  rw [h]
  rintro e w0 ⟨rfl, hw0⟩
  subst hw0
  go_wp2_with fail
  refine (rsections_any s r _ hs hr1 hr2).mono ?_
  rintro e w1 ⟨rows, g, rfl, hR, hC, G1⟩
  have hsz := sec_len hR (by omega) r
  have hsn : (Rot.sectionsOf s.data.toList rows r).length = 5 := rfl
  have HF : Hid (Rot.fileOf s.data.toList rows r = Rot.headOf s.data.toList.length r (12 + (Rot.tableOf (Rot.sectionsOf s.data.toList rows r)).length + (Rot.bodyOf (Rot.sectionsOf s.data.toList rows r)).length) ++ Rot.tableOf (Rot.sectionsOf s.data.toList rows r) ++ Rot.bodyOf (Rot.sectionsOf s.data.toList rows r)) := rfl
  have HR := hide hR
  have HG1 := hide G1
  generalize Rot.sectionsOf s.data.toList rows r = ss at hC hsz hsn HF
  have HC := hide hC
  have HZ := hide hsz
  have HSN := hide hsn
  clear hR hC G1 hsz hsn
  go_wp2_with fail
  go_loopw [8, 9, 10] (fun tb al i wr => BldV w1 ss tb al i wr) (fun _ _ i _ => 5 - (intOf i).toNat)
  case atStart => exact BldV.mk 0 (Nat.zero_le _) rfl rfl rfl (World.grownBy.refl _ _)
  case round =>
    obtain ⟨k, hk, rfl, rfl, rfl, G⟩ := hrel
    have z1 : (Sb (Rot.tableOf (ss.take k))).size ≤ 100 := Sb_le (by rw [table_len, List.length_take]; omega)
    have z2 : (Sb (Rot.bodyOf (ss.take k))).size ≤ 10000 := Sb_le (by
      have := body_len (ss.take k) (fun x hx => unhide HZ x (List.mem_of_mem_take hx))
      rw [List.length_take] at this
      omega)
    by_cases hlt : k < 5
    · have hlt2 : k < ss.length := by rw [unhide HSN]; exact hlt
      have hck := cell_grown (unhide HC k hlt2) G
      have hx : (ss[k]'hlt2).length < 1000 := unhide HZ _ (List.getElem_mem hlt2)
      have HT := hide (table_snoc ss k hlt2)
      have HB := hide (body_snoc ss k hlt2)
      generalize ss[k]'hlt2 = x at hck hx HT HB
      have z3 : (Sb x).size < 1000 := by rw [Sb_size]; exact hx
      have z4 := Sb_size x
      have HG := hide G
      have hck' : wr.drew.cell? ⟨g, k, none⟩ = some (.string (Sb x)) := hck
      have hsum : ∀ w : World, Calls Tryz.prog 73 #[.string (Sb x)] w fun e w' => e = .returned (.int .u32 (Rot.sumOf x)) ∧ w' = w := by
        intro w
        have := rsum_any (Sb x) w (by omega)
        rw [Sb_toList] at this
        exact this
      have hslt := sum_lt x
      have z5 := Sb_two x.length
      have z6 := Sb_four (Rot.sumOf x)
      clear G
      go_upto_region 10 with fail
      go_cut [8] (fun tb wx => tb = .string (Sb (Rot.tableOf (ss.take (k + 1)))) ∧ wr.grownBy wx none)
      case first =>
        go_region_with (first
          | (go_at_call 71; refine (two_any x.length _ (by omega)).mono ?_; rintro e w2 ⟨rfl, g2⟩; have hck2 := cell_grown hck' g2)
          | (go_at_call 73; refine (hsum _).mono ?_; rintro e w3 ⟨rfl, hw3⟩; subst hw3)
          | (go_at_call 72; refine (four_any (Rot.sumOf x) _ hslt).mono ?_; rintro e w4 ⟨rfl, g4⟩))
        all_goals (go_wp2_with fail)
        all_goals go_meet
        all_goals
          refine ⟨by rw [unhide HT, Sb_append, Sb_append], ?_⟩
          exact grown_trans (⟨g2.os, g2.tape, g2.output, g2.size, g2.block⟩ : wr.grownBy _ none) g4 (Or.inl rfl)
      case rest =>
        obtain ⟨rfl, g2⟩ := hcut
        have hck3 := cell_grown hck g2
        have HG2 := hide (grown_trans (unhide HG) g2 (Or.inl rfl))
        have z7 : (Sb (Rot.tableOf (ss.take (k + 1)))).size ≤ 100 := Sb_le (by rw [table_len, List.length_take]; omega)
        have HA := hide (Sb_append (Rot.bodyOf (ss.take k)) x)
        clear hsum hck hck' g2
        go_wp2_with fail
        go_roundw
        case rel =>
          have q1 : Value.string (Sb (Rot.bodyOf (ss.take k)) ++ Sb x) = .string (Sb (Rot.bodyOf (ss.take (k + 1)))) := by rw [unhide HB, unhide HA]
          first | exact BldV.mk (k + 1) (by omega) (by go_num) rfl q1 (unhide HG2) | (repeat apply Exists.intro; refine ⟨?_, rfl⟩; exact BldV.mk (k + 1) (by omega) (by go_num) rfl q1 (unhide HG2))
        case measure => simp [intOf]; omega
    · have ek : k = 5 := by omega
      subst ek
      have e5 : ss.take 5 = ss := List.take_of_length_le (by rw [unhide HSN]; exact Nat.le_refl _)
      rw [e5] at z1 z2 ⊢
      have tl : (Rot.tableOf ss).length = 30 := by rw [table_len, unhide HSN]
      have bl := body_len ss (unhide HZ)
      rw [unhide HSN] at bl
      have HG := hide G
      clear G e5
      generalize Rot.tableOf ss = T at z1 HF tl ⊢
      generalize Rot.bodyOf ss = B at z2 HF bl ⊢
      have z3 := Sb_size T
      have z4 := Sb_size B
      have z5 := Sb_two s.size
      have hcv : ∀ W w' : World, (W.alloc (.cells #[.int .u8 (r : Int), .int .u8 5] 5)).grownBy w' none → (convert 45 9 (.slice (some ⟨W.heap.size, 0, none⟩) 2 2)).run Tryz.prog w' = .ok (.string (Sb [UInt8.ofNat r, 5])) w' := fun W w' g => conv_two r (by omega) g
      have hcv0 := hcv wr.drew _ (World.grownBy.refl _ _)
      have hcv1 : (convert 45 9 (.slice (some ⟨wr.heap.size, 0, none⟩) 2 2)).run Tryz.prog (wr.drew.alloc (.cells #[.int .u8 (r : Int), .int .u8 5] 5)) = .ok (.string (Sb [UInt8.ofNat r, 5])) (wr.drew.alloc (.cells #[.int .u8 (r : Int), .int .u8 5] 5)) := hcv0
      have hcv6 : (convert 45 9 (.slice (some ⟨wr.heap.size, 0, none⟩) 2 2)).run Tryz.prog (wr.alloc (.cells #[.int .u8 (r : Int), .int .u8 5] 5)).drew = .ok (.string (Sb [UInt8.ofNat r, 5])) (wr.alloc (.cells #[.int .u8 (r : Int), .int .u8 5] 5)).drew := hcv0
      have hsz : 12 + T.length + B.length = 42 + B.length := by omega
      rw [hsz] at HF
      have hhead : Sb (Rot.headOf s.size r (42 + B.length)) = (⟨#[82, 84, 88, 49]⟩ : ByteArray) ++ Sb (Rot.le16 s.size) ++ Sb [UInt8.ofNat r, 5] ++ Sb (Rot.le32 (42 + B.length)) := by
        unfold Rot.headOf
        rw [show (⟨#[82, 84, 88, 49]⟩ : ByteArray) = Sb [82, 84, 88, 49] from rfl]
        simp only [Sb_append, List.append_assoc]
        rfl
      have HFF : Hid (Sb (Rot.fileOf s.data.toList rows r) = (⟨#[82, 84, 88, 49]⟩ : ByteArray) ++ Sb (Rot.le16 s.size) ++ Sb [UInt8.ofNat r, 5] ++ Sb (Rot.le32 (42 + B.length)) ++ Sb T ++ Sb B) := by
        refine hide ?_
        rw [unhide HF, ← Sb_append, ← Sb_append, hsl, hhead]
      have HGA := hide (grown_trans (unhide HG1) (unhide HG) (Or.inl rfl))
      have HCV := hide hcv
      have HCW : Hid (∀ w' : World, (wr.drew.alloc (.cells #[.int .u8 (r : Int), .int .u8 5] 5)).grownBy w' none → (convert 45 9 (.slice (some ⟨wr.heap.size, 0, none⟩) 2 2)).run Tryz.prog w' = .ok (.string (Sb [UInt8.ofNat r, 5])) w') := fun w' g => hcv wr.drew w' g
      have z6 := Sb_four (42 + B.length)
      have z7 : (Sb [UInt8.ofNat r, 5]).size = 2 := rfl
      have hw1 : IntKind.u8.wrap (r : Int) = (r : Int) := by rw [IntKind.wrap_u8]; omega
      have hw2 : IntKind.u32.wrap (42 + (B.length : Int)) = 42 + (B.length : Int) := by rw [IntKind.wrap_u32]; omega
      clear hhead hcv hsz
      go_upto_region 13 with fail
      go_region_with (first
          | (go_at_call 71; refine (two_any s.size _ (by omega)).mono ?_; rintro e w2 ⟨rfl, g2⟩; have hcvb2 := unhide HCV w2 _ (World.grownBy.refl _ _); (try have hcv2 := unhide HCW _ g2))
          | (go_at_call 72; refine (four_any (42 + B.length) _ (by omega)).mono ?_; rintro e w4 ⟨rfl, g4⟩; have hcvb4 := unhide HCV w4 _ (World.grownBy.refl _ _); (try have hcv4 := unhide HCV w2 _ g4); (try have hcv5 := unhide HCW _ (grown_trans g2 g4 (Or.inl rfl)))))
      all_goals (go_wp2_with fail)
      all_goals go_ret2
      all_goals
        refine ⟨rows, ?_, unhide HR, ?_⟩
        · rw [unhide HFF]
          rfl
        · first
          | exact grown_trans (grown_trans (unhide HGA) (grown_of_drew g2) (Or.inl rfl)) g4 (Or.inl rfl)
          | exact grown_trans (grown_trans (grown_alloc (unhide HGA) _) (grown_of_drew g2) (Or.inl rfl)) g4 (Or.inl rfl)
          | exact grown_trans (grown_trans (grown_alloc (grown_drewN (unhide HGA) 1) _) g2 (Or.inl rfl)) g4 (Or.inl rfl)
          | exact grown_trans (grown_alloc (grown_trans (unhide HGA) (grown_of_drew g2) (Or.inl rfl)) _) g4 (Or.inl rfl)
          | exact grown_alloc (grown_trans (grown_trans (unhide HGA) (grown_of_drew g2) (Or.inl rfl)) g4 (Or.inl rfl)) _
end Go.Proofs.YthlincikgdblfaaGreat
