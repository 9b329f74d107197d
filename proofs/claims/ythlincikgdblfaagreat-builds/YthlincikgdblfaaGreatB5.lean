import Derived.Test.YthlincikgdblfaaGreatB4
namespace Go.Proofs.YthlincikgdblfaaGreat
open Go.RowKit
set_option linter.unusedVariables false

theorem extract_end (s : ByteArray) (x : Nat) (hx : x ≤ s.size) : (s.extract x s.size).toList = s.data.toList.drop x := by
  rw [ByteArray.toList_eq, ByteArray.data_extract]
  simp
  exact List.take_of_length_le (by simp)

def RowV (w : World) (s : ByteArray) (lv pv : Value) (wr : World) : Prop := ∃ (q : Nat) (l : List Nat), q ≤ s.size + 1 ∧ pv = .int .i64 ((q : Int) - 1) ∧ Some s.data.toList q l ∧ Is wr w.heap.size lv l ∧ w.grownBy wr none
theorem RowV.mk {w : World} {s : ByteArray} {lv pv : Value} {wr : World} (q : Nat) (l : List Nat) (h1 : q ≤ s.size + 1) (h2 : pv = .int .i64 ((q : Int) - 1)) (h3 : Some s.data.toList q l) (h4 : Is wr w.heap.size lv l) (h5 : w.grownBy wr none) : RowV w s lv pv wr := ⟨q, l, h1, h2, h3, h4, h5⟩
def AtV (s : ByteArray) (l : List Nat) (p : Nat) (w1 : World) (av : Value) (wr : World) : Prop := ∃ a n : Nat, a ≤ l.length ∧ av = .int .i64 (a : Int) ∧ wr = w1.drewN n ∧ ∀ j (hj : j < l.length), j < a → Rot.less (s.data.toList.drop (l[j]'hj)) (s.data.toList.drop p) = true
theorem AtV.mk {s : ByteArray} {l : List Nat} {p : Nat} {w1 : World} {av : Value} {wr : World} (a n : Nat) (h1 : a ≤ l.length) (h2 : av = .int .i64 (a : Int)) (h3 : wr = w1.drewN n) (h4 : ∀ j (hj : j < l.length), j < a → Rot.less (s.data.toList.drop (l[j]'hj)) (s.data.toList.drop p) = true) : AtV s l p w1 av wr := ⟨a, n, h1, h2, h3, h4⟩
theorem drewN_drewN (w : World) (a b : Nat) : (w.drewN a).drewN b = w.drewN (a + b) := by
  unfold World.drewN
  simp [Nat.add_assoc]
theorem Is.mono {w : World} {base base' : Nat} {v : Value} {l : List Nat} (h : Is w base v l) (hb : base' ≤ base) : Is w base' v l :=
  ⟨h.1, h.2.imp id fun ⟨g, cap, cur, a, b, c⟩ => ⟨g, cap, cur, a, Nat.le_trans hb b, c⟩⟩
theorem Is.drewN {w : World} {B : Nat} {v : Value} {l : List Nat} (h : Is w B v l) (n : Nat) : Is (w.drewN n) B v l := h

set_option maxRecDepth 100000 in
set_option maxHeartbeats 2000000 in
theorem rrows_any (s : ByteArray) (w : World) (hs : s.size ≤ 250) :
    Calls Tryz.prog 104 #[.string s] w fun e w' => ∃ g cap rows, e = .returned (.slice (some ⟨g, 0, none⟩) (s.size + 1) cap) ∧ Rot.IsRows s.data.toList rows ∧ rows.length = s.size + 1 ∧ Is w' w.heap.size (.slice (some ⟨g, 0, none⟩) (s.size + 1) cap) rows ∧ w.grownBy w' none := by
  have hsl : s.data.toList.length = s.size := by simp
  go_enter Tryz.func104, Tryz.ntmps104
  go_wp2_with fail
  go_loopw [3, 4, 5, 6] (fun lv pv _a _m wr => RowV w s lv pv wr) (fun _ p _ _ _ => (intOf p + 1).toNat)
  case atStart => exact RowV.mk (s.size + 1) [] (Nat.le_refl _) (num_eq (by omega)) ⟨by simp, List.Pairwise.nil⟩ (World.ownsRow_nil _ _ _ _) (World.grownBy.refl _ _)
  case round =>
    obtain ⟨q, l, hq, rfl, hS, I, G⟩ := hrel
    by_cases hq0 : q = 0
    · subst hq0
      have hR := hS.rows
      have hlen := hS.len
      rcases I.form with ⟨_, e⟩ | ⟨g, cap, rfl, hg1, hg2, hg3⟩
      · rw [e] at hlen; simp at hlen
      have hll : l.length = s.size + 1 := by rw [hlen, hsl]; omega
      have HR := hide hR
      have HI := hide I
      have HG := hide G
      have HLL := hide hll
      clear hS hR hlen I G hll
      go_wp2_with fail
      go_ret
      refine ⟨g, cap, l, by rw [← unhide HLL]; rfl, unhide HR, unhide HLL, ?_, unhide HG⟩
      rw [← unhide HLL]
      exact unhide HI
    · obtain ⟨p, rfl⟩ : ∃ p, q = p + 1 := ⟨q - 1, by omega⟩
      have hlen := hS.len
      have hmem := hS.mem
      have hsz := G.size
      have HS := hide hS
      have HM := hide hmem
      have HI := hide I
      have HG := hide G
      have hll : l.length ≤ 251 := by rw [hlen, hsl]; omega
      have epp : (((p + 1 : Nat) : Int) - 1) = (p : Int) := by omega
      rw [epp]
      clear hS hmem hlen I G epp
      have hp : p ≤ s.size := by omega
      rcases (unhide HI).form with ⟨rfl, rfl⟩ | ⟨g, cap, rfl, hg1, hg2, hg3⟩
      · obtain ⟨wo, hwo⟩ : ∃ wo : World, wo = wr := ⟨_, rfl⟩
        rw [← hwo] at HI HG hsz ⊢
        clear hwo
        go_wp2_with fail
        go_loopw [5] (fun av wi => AtV s [] p wo av wi) (fun av _ => 0 - (intOf av).toNat)
        case atStart => exact AtV.mk 0 0 (Nat.zero_le _) rfl rfl (fun j _ h => absurd h (Nat.not_lt_zero _))
        case round =>
          obtain ⟨a, n, ha, rfl, rfl, hb⟩ := hrel
          have ea : a = 0 := by simpa using ha
          subst ea
          have HN := hide (Some.insert (unhide HS) (by omega) 0 (Nat.le_refl _) (fun j hj => hb j (by omega) hj) (fun h => absurd h (Nat.lt_irrefl _)))
          simp only [List.take_nil, List.drop_nil, List.append_nil, List.nil_append] at HN
          clear hb
          go_wp2_with fail
          go_quiet (fail)
          have Gw := grown_drewN (unhide HG) (n + nq)
          go_wp2_with (at_builtin; first | refine wp_appI0 _ rfl (.tmp 31) (.tmp 34) rfl wo.heap.size _ [] rfl (World.ownsRow_nil _ _ _ _) rfl ?_ | refine wp_appI _ rfl (.tmp 36) (.tmp 38) rfl wo.heap.size _ [] rfl (World.ownsRow_nil _ _ _ _) ⟨(wo.drewN (n + nq)).heap.size, 0, none⟩ 1 1 [p] rfl rfl (cell_one_new (wo.drewN (n + nq)) _ _) ?a2 ?a3 ?_)
          case a2 => simp
          case a3 => simp
          intro m2 w4 M2 g2
          have HG4 := hide (grown_trans (grown_alloc Gw _) g2 (Or.inl rfl))
          clear g2 Gw
          go_wp2_with (at_builtin; refine wp_appI0 _ rfl (.tmp 40) (.tmp 43) rfl wo.heap.size _ _ rfl M2 rfl ?_)
          have HM3 : Hid (Is w4 w.heap.size m2 [p]) := Is.mono M2 hsz
          clear M2
          go_roundw
          case rel =>
            first | exact RowV.mk p _ (by omega) (by go_num) (unhide HN) (unhide HM3) (unhide HG4) | (repeat apply Exists.intro; refine ⟨?_, rfl⟩; exact RowV.mk p _ (by omega) (by go_num) (unhide HN) (unhide HM3) (unhide HG4))
          case measure => simp [intOf]
      · obtain ⟨wo, hwo⟩ : ∃ wo : World, wo = wr := ⟨_, rfl⟩
        rw [← hwo] at HI HG hg2 hsz ⊢
        clear hwo
        have HC := hide (fun j hj => Is.cell (unhide HI) j hj)
        go_wp2_with fail
        go_loopw [5] (fun av wi => AtV s l p wo av wi) (fun av _ => l.length - (intOf av).toNat)
        case atStart => exact AtV.mk 0 0 (Nat.zero_le _) rfl rfl (fun j _ h => absurd h (Nat.not_lt_zero _))
        case round =>
          obtain ⟨a, n, ha, rfl, rfl, hb⟩ := hrel
          by_cases hin : a < l.length
          · have hck := unhide HC a hin
            have hx : l[a]'hin ≤ s.size := by have := unhide HM _ (List.getElem_mem hin); omega
            have HX := hide (extract_end s (l[a]'hin) hx)
            have HP := hide (extract_end s p hp)
            cases hless : Rot.less (s.data.toList.drop (l[a]'hin)) (s.data.toList.drop p) with
            | true =>
              have hbl : Op.bytesLess (s.extract (l[a]'hin) s.size).toList (s.extract p s.size).toList = true := by rw [unhide HX, unhide HP, bytesLess_eq]; exact hless
              have HB2 : Hid (∀ j (hj : j < l.length), j < a + 1 → Rot.less (s.data.toList.drop (l[j]'hj)) (s.data.toList.drop p) = true) := by
                intro j hj hja
                by_cases hjj : j = a
                · subst hjj; exact hless
                · exact hb j hj (by omega)
              generalize l[a]'hin = y at hck hx hbl
              clear hb hless HX HP
              go_wp2_with fail
              go_quiet (fail)
              go_wp2
              go_roundw
              case rel =>
                first | exact AtV.mk (a + 1) _ (by omega) (by go_num) rfl (unhide HB2) | (repeat apply Exists.intro; refine ⟨?_, rfl⟩; exact AtV.mk (a + 1) _ (by omega) (by go_num) rfl (unhide HB2))
              case measure => simp [intOf]; omega
            | false =>
              have hbl : Op.bytesLess (s.extract (l[a]'hin) s.size).toList (s.extract p s.size).toList = false := by rw [unhide HX, unhide HP, bytesLess_eq]; exact hless
              have HN := hide (Some.insert (unhide HS) (by omega) a ha (fun j hj => hb j (by omega) hj) (fun _ => hless))
              generalize l[a]'hin = y at hck hx hbl
              clear hb hless HX HP
              go_wp2_with fail
              go_quiet (fail)
              have Iw := (unhide HI).drewN (n + nq)
              have Gw := grown_drewN (unhide HG) (n + nq)
              have hal : (l.take a).length = a := by rw [List.length_take]; omega
              go_wp2_with (at_builtin; refine wp_appI _ rfl (.tmp 31) (.tmp 34) rfl wo.heap.size _ [] rfl (World.ownsRow_nil _ _ _ _) ⟨g, 0, none⟩ cap a (l.take a) hal rfl (Is.cells_from Iw 0 a (by omega)) ?a1 (Nat.le_refl _) ?_)
              case a1 => rw [hal]; simp; omega
              intro m1 w3 M1 g1
              try rw [List.nil_append] at M1
              have I3 := ownsRow_kept0 Iw (by simpa [Value.ownBlock] using g1)
              have G3 := grown_trans Gw g1 (Or.inl rfl)
              have hz3 : wo.heap.size ≤ w3.heap.size := g1.size
              clear g1
              go_wp2_with (at_builtin; refine wp_appI _ rfl (.tmp 36) (.tmp 38) rfl wo.heap.size _ (l.take a) rfl (World.ownsRow.alloc M1 _) ⟨w3.heap.size, 0, none⟩ 1 1 [p] rfl rfl (cell_one_new _ _ _) ?a2 ?a3 ?_)
              case a2 => rw [hal]; simp; omega
              case a3 => simp; omega
              intro m2 w4 M2 g2
              have hm1 : ∀ k, m1.ownBlock = some k → wo.heap.size ≤ k := fun k hk => (World.ownsRow.lt M1 k hk).1
              have I4 : Is w4 w.heap.size (.slice (some ⟨g, 0, none⟩) l.length cap) l := World.ownsRow.kept (World.ownsRow.alloc I3 _) g2 (by
                right
                intro e
                have := hm1 g e.symm
                omega)
              have G4 := grown_trans (grown_alloc G3 _) g2 (by
                cases e : m1.ownBlock with
                | none => exact Or.inl rfl
                | some k => exact Or.inr ⟨k, rfl, by have := hm1 k e; omega⟩)
              have hz4 : wo.heap.size ≤ w4.heap.size := by have := g2.size; simp at this; omega
              have hdl : (l.drop a).length = l.length - a := by rw [List.length_drop]
              have hcd := Is.cells_from I4 a (l.length - a) (by omega)
              rw [List.take_of_length_le (by omega)] at hcd
              have HG4 := hide G4
              have hl3 : (l.take a ++ [p]).length + (l.drop a).length < 1000000 := by rw [List.length_append, hal, hdl]; simp; omega
              clear g2 I3 G3 M1 I4 G4 Iw Gw
              go_wp2_with (at_builtin; refine wp_appI _ rfl (.tmp 40) (.tmp 43) rfl wo.heap.size _ (l.take a ++ [p]) rfl M2 ⟨g, a, none⟩ (cap - a) (l.length - a) (l.drop a) hdl rfl hcd hl3 hz4 ?_)
              intro m3 w5 M3 g3
              have HG5 := hide (grown_trans (unhide HG4) g3 (by
                cases e : m2.ownBlock with
                | none => exact Or.inl rfl
                | some k => exact Or.inr ⟨k, rfl, by have := (World.ownsRow.lt M2 k e).1; omega⟩))
              have HM3 : Hid (Is w5 w.heap.size m3 (l.take a ++ [p] ++ l.drop a)) := by
                try simp only [List.append_assoc, List.singleton_append] at M3 ⊢
                exact Is.mono M3 hsz
              clear g3 M3 M2 hcd
              go_wp2_with fail
              go_roundw
              case rel =>
                first | exact RowV.mk p _ (by omega) (by go_num) (unhide HN) (unhide HM3) (unhide HG5) | (repeat apply Exists.intro; refine ⟨?_, rfl⟩; exact RowV.mk p _ (by omega) (by go_num) (unhide HN) (unhide HM3) (unhide HG5))
              case measure => simp [intOf]
          · have eal : a = l.length := by omega
            subst eal
            have HN := hide (Some.insert (unhide HS) (by omega) l.length (Nat.le_refl _) (fun j hj => hb j (by omega) hj) (fun h => absurd h (Nat.lt_irrefl _)))
            rw [List.take_length, List.drop_length, List.append_nil] at HN
            clear hb
            have hc0 := Is.cells_from (unhide HI) 0 l.length (by omega)
            rw [List.drop_zero, List.take_length] at hc0
            go_wp2_with fail
            go_quiet (fail)
            have Iw := (unhide HI).drewN (n + nq)
            have Gw := grown_drewN (unhide HG) (n + nq)
            go_wp2_with (at_builtin; refine wp_appI _ rfl (.tmp 31) (.tmp 34) rfl wo.heap.size _ [] rfl (World.ownsRow_nil _ _ _ _) ⟨g, 0, none⟩ cap l.length l rfl rfl hc0 ?a1 (Nat.le_refl _) ?_)
            case a1 => simp; omega
            intro m1 w3 M1 g1
            try rw [List.nil_append] at M1
            have I3 := ownsRow_kept0 Iw (by simpa [Value.ownBlock] using g1)
            have G3 := grown_trans Gw g1 (Or.inl rfl)
            have hz3 : wo.heap.size ≤ w3.heap.size := g1.size
            clear g1
            go_wp2_with (at_builtin; refine wp_appI _ rfl (.tmp 36) (.tmp 38) rfl wo.heap.size _ l rfl (World.ownsRow.alloc M1 _) ⟨w3.heap.size, 0, none⟩ 1 1 [p] rfl rfl (cell_one_new _ _ _) ?a2 ?a3 ?_)
            case a2 => simp; omega
            case a3 => simp; omega
            intro m2 w4 M2 g2
            have hm1 : ∀ k, m1.ownBlock = some k → wo.heap.size ≤ k := fun k hk => (World.ownsRow.lt M1 k hk).1
            have I4 : Is w4 w.heap.size (.slice (some ⟨g, 0, none⟩) l.length cap) l := World.ownsRow.kept (World.ownsRow.alloc I3 _) g2 (by
              right
              intro e
              have := hm1 g e.symm
              omega)
            have G4 := grown_trans (grown_alloc G3 _) g2 (by
              cases e : m1.ownBlock with
              | none => exact Or.inl rfl
              | some k => exact Or.inr ⟨k, rfl, by have := hm1 k e; omega⟩)
            have hz4 : wo.heap.size ≤ w4.heap.size := by have := g2.size; simp at this; omega
            have HG4 := hide G4
            obtain ⟨ad, had⟩ : ∃ ad : Addr, Hid ((if cap = l.length then some (⟨g, 0, none⟩ : Addr) else some ⟨g, l.length, none⟩) = some ad) := by
              by_cases hcl : cap = l.length
              · exact ⟨_, by rw [if_pos hcl]; exact rfl⟩
              · exact ⟨_, by rw [if_neg hcl]; exact rfl⟩
            have hl3 : (l ++ [p]).length + ([] : List Nat).length < 1000000 := by simp; omega
            clear g2 I3 G3 M1 I4 G4 Iw Gw hc0
            go_wp2_with (at_builtin; refine wp_appI _ rfl (.tmp 40) (.tmp 43) rfl wo.heap.size _ (l ++ [p]) rfl M2 ad (cap - l.length) 0 [] rfl (congrArg (fun z => Value.slice z 0 (cap - l.length)) (unhide had)) (fun j u h => by simp [byI] at h) hl3 hz4 ?_)
            all_goals
              intro m3 w5 M3 g3
              have HG5 := hide (grown_trans (unhide HG4) g3 (by
                cases e : m2.ownBlock with
                | none => exact Or.inl rfl
                | some k => exact Or.inr ⟨k, rfl, by have := (World.ownsRow.lt M2 k e).1; omega⟩))
              have HM3 : Hid (Is w5 w.heap.size m3 (l ++ [p])) := by
                try rw [List.append_nil] at M3
                exact Is.mono M3 hsz
              clear g3 M3 M2
              go_wp2_with fail
              go_roundw
              case rel =>
                first | exact RowV.mk p _ (by omega) (by go_num) (unhide HN) (unhide HM3) (unhide HG5) | (repeat apply Exists.intro; refine ⟨?_, rfl⟩; exact RowV.mk p _ (by omega) (by go_num) (unhide HN) (unhide HM3) (unhide HG5))
              case measure => simp [intOf]
end Go.Proofs.YthlincikgdblfaaGreat
