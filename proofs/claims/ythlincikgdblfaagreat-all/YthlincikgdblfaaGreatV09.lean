import Derived.Test.YthlincikgdblfaaGreatV08
namespace Go.Proofs.YthlincikgdblfaaGreat
open Go.RowKit
set_option linter.unusedVariables false

theorem bytesLess_eq : ∀ a b : List UInt8, Op.bytesLess a b = Rot.less a b
  | [], [] => rfl
  | _ :: _, [] => rfl
  | [], _ :: _ => rfl
  | a :: x, b :: y => by
    have ih := bytesLess_eq x y
    simp only [Op.bytesLess, Rot.less]
    by_cases h1 : a < b
    · simp [h1]
    · by_cases h2 : b < a
      · have h3 : ¬ a = b := by intro e; subst e; exact h1 h2
        simp [h1, h2, h3]
      · have h3 : a = b := by
          apply UInt8.toNat_inj.1
          rw [UInt8.lt_iff_toNat_lt] at h1 h2
          omega
        subst h3
        simp [h1, ih]

/-- The ends from p on, in order. -/
structure Some (t : List UInt8) (p : Nat) (l : List Nat) : Prop where
  perm : l.Perm ((List.range (t.length + 1 - p)).map (· + p))
  order : l.Pairwise fun x y => Rot.less (t.drop x) (t.drop y) = true

theorem Some.insert {t : List UInt8} {p : Nat} {l : List Nat} (h : Some t (p + 1) l) (hp : p ≤ t.length) (at' : Nat) (ha : at' ≤ l.length) (h1 : ∀ j (hj : j < at'), Rot.less (t.drop (l[j]'(by omega))) (t.drop p) = true)
    (h2 : ∀ hj : at' < l.length, Rot.less (t.drop (l[at']'hj)) (t.drop p) = false) : Some t p (l.take at' ++ [p] ++ l.drop at') := by
  have hmem : ∀ x ∈ l, p < x ∧ x ≤ t.length := by
    intro x hx
    have := h.perm.mem_iff.1 hx
    rw [List.mem_map] at this
    obtain ⟨y, hy, rfl⟩ := this
    rw [List.mem_range] at hy
    omega
  refine ⟨?_, ?_⟩
  · have e1 : (l.take at' ++ [p] ++ l.drop at').Perm (p :: l) := by
      rw [List.append_assoc]
      refine (List.perm_append_comm (l₁ := l.take at')).trans ?_
      simp only [List.cons_append, List.nil_append]
      refine List.Perm.cons p ?_
      refine List.perm_append_comm.trans ?_
      rw [List.take_append_drop]
    refine e1.trans ?_
    have e2 : t.length + 1 - p = (t.length + 1 - (p + 1)) + 1 := by omega
    rw [e2, List.range_succ_eq_map, List.map_cons, List.map_map]
    simp only [Nat.zero_add]
    refine List.Perm.cons p (h.perm.trans (List.Perm.of_eq ?_))
    apply List.map_congr_left
    intro a _
    simp only [Function.comp]
    omega
  · have hlt : ∀ j (hj : j < l.length), at' ≤ j → Rot.less (t.drop p) (t.drop (l[j]'hj)) = true := by
      intro j hj hja
      have hal : at' < l.length := by omega
      have hm := hmem _ (List.getElem_mem hal)
      have hne : t.drop (l[at']'hal) ≠ t.drop p := drop_ne t _ _ (by omega) hp (by omega)
      have hat : Rot.less (t.drop p) (t.drop (l[at']'hal)) = true := by
        cases hx : Rot.less (t.drop p) (t.drop (l[at']'hal)) with
        | true => rfl
        | false => exact absurd (Rot.less_total _ _ (h2 hal) hx) hne
      by_cases hjj : at' = j
      · subst hjj; exact hat
      · have := (List.pairwise_iff_getElem.1 h.order) at' j hal hj (by omega)
        exact Rot.less_trans _ _ _ hat this
    rw [List.append_assoc, List.pairwise_append]
    refine ⟨h.order.sublist (List.take_sublist _ _), ?_, ?_⟩
    · simp only [List.cons_append, List.nil_append, List.pairwise_cons]
      refine ⟨?_, h.order.sublist (List.drop_sublist _ _)⟩
      intro x hx
      obtain ⟨j, hj, rfl⟩ := List.getElem_of_mem hx
      rw [List.length_drop] at hj
      rw [List.getElem_drop]
      exact hlt _ (by omega) (by omega)
    · intro x hx y hy
      obtain ⟨j, hj, rfl⟩ := List.getElem_of_mem hx
      rw [List.length_take] at hj
      rw [List.getElem_take]
      have hxp := h1 j (by omega)
      simp only [List.cons_append, List.nil_append, List.mem_cons] at hy
      rcases hy with rfl | hy
      · exact hxp
      · obtain ⟨i, hi, rfl⟩ := List.getElem_of_mem hy
        rw [List.length_drop] at hi
        rw [List.getElem_drop]
        exact Rot.less_trans _ _ _ hxp (hlt _ (by omega) (by omega))
theorem Some.mem {t : List UInt8} {p : Nat} {l : List Nat} (h : Some t p l) : ∀ x ∈ l, x ≤ t.length := by
  intro x hx
  have := h.perm.mem_iff.1 hx
  rw [List.mem_map] at this
  obtain ⟨y, hy, rfl⟩ := this
  rw [List.mem_range] at hy
  omega
theorem Some.rows {t : List UInt8} {l : List Nat} (h : Some t 0 l) : Rot.IsRows t l := ⟨by simpa using h.perm, h.order⟩
theorem Some.len {t : List UInt8} {p : Nat} {l : List Nat} (h : Some t p l) : l.length = t.length + 1 - p := by rw [h.perm.length_eq, List.length_map, List.length_range]

theorem byI_one (l : List Nat) : ∀ u ∈ byI l, u.oneCell' = true := by
  intro u hu
  simp only [byI, List.mem_map] at hu
  obtain ⟨b, _, rfl⟩ := hu
  rfl
theorem byI_length (l : List Nat) : (byI l).length = l.length := by simp [byI]
theorem byI_append (l m : List Nat) : byI (l ++ m) = byI l ++ byI m := by simp [byI]
theorem Is.cells_from {w : World} {B g n cap : Nat} {l : List Nat} (h : Is w B (.slice (some ⟨g, 0, none⟩) n cap) l) (k m : Nat) (hk : k + m ≤ l.length) : ∀ j u, (byI ((l.drop k).take m))[j]? = some u → w.cell? ((⟨g, k, none⟩ : Addr).add j) = some u := by
  intro j u hu
  have hj : j < m := by
    have := (List.getElem?_eq_some_iff.1 hu).1
    rw [byI_length, List.length_take, List.length_drop] at this
    omega
  have ha : (⟨g, k, none⟩ : Addr).add j = ⟨g, k + j, none⟩ := by
    unfold Addr.add
    by_cases h0 : j = 0
    · subst h0; rfl
    · simp [h0]
  rw [ha, Is.cell h (k + j) (by omega)]
  simp [byI, hj] at hu
  rw [List.getElem?_eq_getElem (by omega)] at hu
  simpa using hu
/-- APPEND OF INTS, from wherever they lie. -/
theorem wp_appI (w : World) {ops : Array Oper} {rest : List Oper} {o : Oper} {a : Act} {Q : Exit → Act → World → Prop} (hgd : o.guard = none) (s x : Operand)
    (ho : o.op = .call { callee := .builtin .append, args := #[s, x], argTypes := #[25, 25] })
    (B : Nat) (v : Value) (l : List Nat) (hs : a.eval s = v) (hown : Is w B v l) (ad : Addr) (c n : Nat) (m : List Nat) (hn : m.length = n) (hx : a.eval x = .slice (some ad) n c) (hm : ∀ j u, (byI m)[j]? = some u → w.cell? (ad.add j) = some u)
    (hl : l.length + m.length < 1000000) (hB : B ≤ w.heap.size)
    (h : ∀ v' w', Is w' B v' (l ++ m) → w.grownBy w' v.ownBlock → wpList Tryz.prog ops Q rest (a.put o.dst v') w') : wpList Tryz.prog ops Q (o :: rest) a w := by
  subst hn
  obtain ⟨i0, hi, hz0, hz1, hz2⟩ := info_parts infoI
  refine wpList_append_own_at w hgd s x 25 ho B 3 i0 (.int .i64 0) 1 8 Tryz.underlying25 hi hz0 hz1 hz2 rfl (by decide) v l.length (byI l) hs hown ad m.length c (byI m) hx (by rw [byI_length]; omega) hm (byI_one m) (by unfold maxLen; omega) (by omega) hB ?_
  intro v' w' h1 h2 h3 h4
  refine h v' w' ?_ h2
  unfold Is; rw [byI_append, List.length_append]; exact h1
theorem wp_appI0 (w : World) {ops : Array Oper} {rest : List Oper} {o : Oper} {a : Act} {Q : Exit → Act → World → Prop} (hgd : o.guard = none) (s x : Operand)
    (ho : o.op = .call { callee := .builtin .append, args := #[s, x], argTypes := #[25, 25] })
    (B : Nat) (v : Value) (l : List Nat) (hs : a.eval s = v) (hown : Is w B v l) (hx : a.eval x = .slice none 0 0)
    (h : wpList Tryz.prog ops Q rest (a.put o.dst v) w) : wpList Tryz.prog ops Q (o :: rest) a w := by
  obtain ⟨i0, hi, hz0, hz1, hz2⟩ := info_parts infoI
  exact wpList_append_own_none hgd s x 25 ho B 3 i0 1 Tryz.underlying25 hi v l.length (byI l) hs hown hx h
theorem Is.fresh {w wr w1 : World} {u : Value} {l : List Nat} (A : Is wr w.heap.size u l) (G : w.grownBy wr none) (g : wr.grownBy w1 u.ownBlock) : w.grownBy w1 none :=
  grown_trans G g (by
    cases eo : u.ownBlock with
    | none => exact Or.inl rfl
    | some j => exact Or.inr ⟨j, rfl, (World.ownsRow.lt A j eo).1⟩)
end Go.Proofs.YthlincikgdblfaaGreat

namespace Go.Proofs.YthlincikgdblfaaGreat
open Go.RowKit
set_option linter.unusedVariables false

theorem extract_end (s : ByteArray) (x : Nat) (hx : x ≤ s.size) : (s.extract x s.size).toList = s.data.toList.drop x := by
  rw [ByteArray.toList_eq, ByteArray.data_extract]
  simp
  exact List.take_of_length_le (by simp)

def RowV (w : World) (s : ByteArray) (lv pv : Value) (wr : World) : Prop := ∃ (q : Nat) (l : List Nat), q ≤ s.size + 1 ∧ pv = .int .i64 ((q : Int) - 1) ∧ Some s.data.toList q l ∧ Is wr w.heap.size lv l ∧ w.grownBy wr none
theorem RowV.mk {w : World} {s : ByteArray} {lv pv : Value} {wr : World} (q : Nat) (l : List Nat) (h1 : q ≤ s.size + 1) (h2 : pv = .int .i64 ((q : Int) - 1)) (h3 : Some s.data.toList q l) (h4 : Is wr w.heap.size lv l) (h5 : w.grownBy wr none) : RowV w s lv pv wr := ⟨q, l, h1, h2, h3, h4, h5⟩
def AtV (s : ByteArray) (l : List Nat) (p : Nat) (w1 : World) (av : Value) (wr : World) : Prop := ∃ a n : Nat, a ≤ l.length ∧ av = .int .i64 (a : Int) ∧ wr = w1.drewN n ∧ ∀ j (hj : j < l.length), j < a → Rot.less (s.data.toList.drop (l[j]'hj)) (s.data.toList.drop p) = true
theorem AtV.mk {s : ByteArray} {l : List Nat} {p : Nat} {w1 : World} {av : Value} {wr : World} (a n : Nat) (h1 : a ≤ l.length) (h2 : av = .int .i64 (a : Int)) (h3 : wr = w1.drewN n) (h4 : ∀ j (hj : j < l.length), j < a → Rot.less (s.data.toList.drop (l[j]'hj)) (s.data.toList.drop p) = true) : AtV s l p w1 av wr := ⟨a, n, h1, h2, h3, h4⟩
theorem drewN_drewN (w : World) (a b : Nat) : (w.drewN a).drewN b = w.drewN (a + b) := by
  unfold World.drewN
  simp [Nat.add_assoc]
theorem Is.mono {w : World} {base base' : Nat} {v : Value} {l : List Nat} (h : Is w base v l) (hb : base' ≤ base) : Is w base' v l :=
  ⟨h.1, h.2.imp id fun ⟨g, cap, cur, a, b, c⟩ => ⟨g, cap, cur, a, Nat.le_trans hb b, c⟩⟩
theorem Is.drewN {w : World} {B : Nat} {v : Value} {l : List Nat} (h : Is w B v l) (n : Nat) : Is (w.drewN n) B v l := h

set_option maxRecDepth 100000 in
set_option maxHeartbeats 2000000 in
theorem rrows_any (s : ByteArray) (w : World) (hs : s.size ≤ 250) :
    Calls Tryz.prog 104 #[.string s] w fun e w' => ∃ g cap rows, e = .returned (.slice (some ⟨g, 0, none⟩) (s.size + 1) cap) ∧ Rot.IsRows s.data.toList rows ∧ rows.length = s.size + 1 ∧ Is w' w.heap.size (.slice (some ⟨g, 0, none⟩) (s.size + 1) cap) rows ∧ w.grownBy w' none := by
  have hsl : s.data.toList.length = s.size := by simp
  go_enter Tryz.func104, Tryz.ntmps104
  go_wp2_with fail
  go_loopw [3, 4, 5, 6] (fun lv pv _a _m wr => RowV w s lv pv wr) (fun _ p _ _ _ => (intOf p + 1).toNat)
  case atStart => exact RowV.mk (s.size + 1) [] (Nat.le_refl _) (num_eq (by omega)) ⟨by simp, List.Pairwise.nil⟩ (World.ownsRow_nil _ _ _ _) (World.grownBy.refl _ _)
  case round =>
    obtain ⟨q, l, hq, rfl, hS, I, G⟩ := hrel
    by_cases hq0 : q = 0
    · subst hq0
      have hR := hS.rows
      have hlen := hS.len
      rcases I.form with ⟨_, e⟩ | ⟨g, cap, rfl, hg1, hg2, hg3⟩
      · rw [e] at hlen; simp at hlen
      have hll : l.length = s.size + 1 := by rw [hlen, hsl]; omega
      have HR := hide hR
      have HI := hide I
      have HG := hide G
      have HLL := hide hll
      clear hS hR hlen I G hll
      go_wp2_with fail
      go_ret
      refine ⟨g, cap, l, by rw [← unhide HLL]; rfl, unhide HR, unhide HLL, ?_, unhide HG⟩
      rw [← unhide HLL]
      exact unhide HI
    · obtain ⟨p, rfl⟩ : ∃ p, q = p + 1 := ⟨q - 1, by omega⟩
      have hlen := hS.len
      have hmem := hS.mem
      have hsz := G.size
      have HS := hide hS
      have HM := hide hmem
      have HI := hide I
      have HG := hide G
      have hll : l.length ≤ 251 := by rw [hlen, hsl]; omega
      have epp : (((p + 1 : Nat) : Int) - 1) = (p : Int) := by omega
      rw [epp]
      clear hS hmem hlen I G epp
      have hp : p ≤ s.size := by omega
      rcases (unhide HI).form with ⟨rfl, rfl⟩ | ⟨g, cap, rfl, hg1, hg2, hg3⟩
      · obtain ⟨wo, hwo⟩ : ∃ wo : World, wo = wr := ⟨_, rfl⟩
        rw [← hwo] at HI HG hsz ⊢
        clear hwo
        go_wp2_with fail
        go_loopw [5] (fun av wi => AtV s [] p wo av wi) (fun av _ => 0 - (intOf av).toNat)
        case atStart => exact AtV.mk 0 0 (Nat.zero_le _) rfl rfl (fun j _ h => absurd h (Nat.not_lt_zero _))
        case round =>
          obtain ⟨a, n, ha, rfl, rfl, hb⟩ := hrel
          have ea : a = 0 := by simpa using ha
          subst ea
          have HN := hide (Some.insert (unhide HS) (by omega) 0 (Nat.le_refl _) (fun j hj => hb j (by omega) hj) (fun h => absurd h (Nat.lt_irrefl _)))
          simp only [List.take_nil, List.drop_nil, List.append_nil, List.nil_append] at HN
          clear hb
          go_wp2_with fail
          go_quiet (fail)
          have Gw := grown_drewN (unhide HG) (n + nq)
          go_wp2_with (at_builtin; first | refine wp_appI0 _ rfl (.tmp 31) (.tmp 34) rfl wo.heap.size _ [] rfl (World.ownsRow_nil _ _ _ _) rfl ?_ | refine wp_appI _ rfl (.tmp 36) (.tmp 38) rfl wo.heap.size _ [] rfl (World.ownsRow_nil _ _ _ _) ⟨(wo.drewN (n + nq)).heap.size, 0, none⟩ 1 1 [p] rfl rfl (cell_one_new (wo.drewN (n + nq)) _ _) ?a2 ?a3 ?_)
          case a2 => simp
          case a3 => simp
          intro m2 w4 M2 g2
          have HG4 := hide (grown_trans (grown_alloc Gw _) g2 (Or.inl rfl))
          clear g2 Gw
          go_wp2_with (at_builtin; refine wp_appI0 _ rfl (.tmp 40) (.tmp 43) rfl wo.heap.size _ _ rfl M2 rfl ?_)
          have HM3 : Hid (Is w4 w.heap.size m2 [p]) := Is.mono M2 hsz
          clear M2
          go_roundw
          case rel =>
            first | exact RowV.mk p _ (by omega) (by go_num) (unhide HN) (unhide HM3) (unhide HG4) | (repeat apply Exists.intro; refine ⟨?_, rfl⟩; exact RowV.mk p _ (by omega) (by go_num) (unhide HN) (unhide HM3) (unhide HG4))
          case measure => simp [intOf]
      · obtain ⟨wo, hwo⟩ : ∃ wo : World, wo = wr := ⟨_, rfl⟩
        rw [← hwo] at HI HG hg2 hsz ⊢
        clear hwo
        have HC := hide (fun j hj => Is.cell (unhide HI) j hj)
        go_wp2_with fail
        go_loopw [5] (fun av wi => AtV s l p wo av wi) (fun av _ => l.length - (intOf av).toNat)
        case atStart => exact AtV.mk 0 0 (Nat.zero_le _) rfl rfl (fun j _ h => absurd h (Nat.not_lt_zero _))
        case round =>
          obtain ⟨a, n, ha, rfl, rfl, hb⟩ := hrel
          by_cases hin : a < l.length
          · have hck := unhide HC a hin
            have hx : l[a]'hin ≤ s.size := by have := unhide HM _ (List.getElem_mem hin); omega
            have HX := hide (extract_end s (l[a]'hin) hx)
            have HP := hide (extract_end s p hp)
            cases hless : Rot.less (s.data.toList.drop (l[a]'hin)) (s.data.toList.drop p) with
            | true =>
              have hbl : Op.bytesLess (s.extract (l[a]'hin) s.size).toList (s.extract p s.size).toList = true := by rw [unhide HX, unhide HP, bytesLess_eq]; exact hless
              have HB2 : Hid (∀ j (hj : j < l.length), j < a + 1 → Rot.less (s.data.toList.drop (l[j]'hj)) (s.data.toList.drop p) = true) := by
                intro j hj hja
                by_cases hjj : j = a
                · subst hjj; exact hless
                · exact hb j hj (by omega)
              generalize l[a]'hin = y at hck hx hbl
              clear hb hless HX HP
              go_wp2_with fail
              go_quiet (fail)
              go_wp2
              go_roundw
              case rel =>
                first | exact AtV.mk (a + 1) _ (by omega) (by go_num) rfl (unhide HB2) | (repeat apply Exists.intro; refine ⟨?_, rfl⟩; exact AtV.mk (a + 1) _ (by omega) (by go_num) rfl (unhide HB2))
              case measure => simp [intOf]; omega
            | false =>
              have hbl : Op.bytesLess (s.extract (l[a]'hin) s.size).toList (s.extract p s.size).toList = false := by rw [unhide HX, unhide HP, bytesLess_eq]; exact hless
              have HN := hide (Some.insert (unhide HS) (by omega) a ha (fun j hj => hb j (by omega) hj) (fun _ => hless))
              generalize l[a]'hin = y at hck hx hbl
              clear hb hless HX HP
              go_wp2_with fail
              go_quiet (fail)
              have Iw := (unhide HI).drewN (n + nq)
              have Gw := grown_drewN (unhide HG) (n + nq)
              have hal : (l.take a).length = a := by rw [List.length_take]; omega
              go_wp2_with (at_builtin; refine wp_appI _ rfl (.tmp 31) (.tmp 34) rfl wo.heap.size _ [] rfl (World.ownsRow_nil _ _ _ _) ⟨g, 0, none⟩ cap a (l.take a) hal rfl (Is.cells_from Iw 0 a (by omega)) ?a1 (Nat.le_refl _) ?_)
              case a1 => rw [hal]; simp; omega
              intro m1 w3 M1 g1
              try rw [List.nil_append] at M1
              have I3 := ownsRow_kept0 Iw (by simpa [Value.ownBlock] using g1)
              have G3 := grown_trans Gw g1 (Or.inl rfl)
              have hz3 : wo.heap.size ≤ w3.heap.size := g1.size
              clear g1
              go_wp2_with (at_builtin; refine wp_appI _ rfl (.tmp 36) (.tmp 38) rfl wo.heap.size _ (l.take a) rfl (World.ownsRow.alloc M1 _) ⟨w3.heap.size, 0, none⟩ 1 1 [p] rfl rfl (cell_one_new _ _ _) ?a2 ?a3 ?_)
              case a2 => rw [hal]; simp; omega
              case a3 => simp; omega
              intro m2 w4 M2 g2
              have hm1 : ∀ k, m1.ownBlock = some k → wo.heap.size ≤ k := fun k hk => (World.ownsRow.lt M1 k hk).1
              have I4 : Is w4 w.heap.size (.slice (some ⟨g, 0, none⟩) l.length cap) l := World.ownsRow.kept (World.ownsRow.alloc I3 _) g2 (by
                right
                intro e
                have := hm1 g e.symm
                omega)
              have G4 := grown_trans (grown_alloc G3 _) g2 (by
                cases e : m1.ownBlock with
                | none => exact Or.inl rfl
                | some k => exact Or.inr ⟨k, rfl, by have := hm1 k e; omega⟩)
              have hz4 : wo.heap.size ≤ w4.heap.size := by have := g2.size; simp at this; omega
              have hdl : (l.drop a).length = l.length - a := by rw [List.length_drop]
              have hcd := Is.cells_from I4 a (l.length - a) (by omega)
              rw [List.take_of_length_le (by omega)] at hcd
              have HG4 := hide G4
              have hl3 : (l.take a ++ [p]).length + (l.drop a).length < 1000000 := by rw [List.length_append, hal, hdl]; simp; omega
              clear g2 I3 G3 M1 I4 G4 Iw Gw
              go_wp2_with (at_builtin; refine wp_appI _ rfl (.tmp 40) (.tmp 43) rfl wo.heap.size _ (l.take a ++ [p]) rfl M2 ⟨g, a, none⟩ (cap - a) (l.length - a) (l.drop a) hdl rfl hcd hl3 hz4 ?_)
              intro m3 w5 M3 g3
              have HG5 := hide (grown_trans (unhide HG4) g3 (by
                cases e : m2.ownBlock with
                | none => exact Or.inl rfl
                | some k => exact Or.inr ⟨k, rfl, by have := (World.ownsRow.lt M2 k e).1; omega⟩))
              have HM3 : Hid (Is w5 w.heap.size m3 (l.take a ++ [p] ++ l.drop a)) := by
                try simp only [List.append_assoc, List.singleton_append] at M3 ⊢
                exact Is.mono M3 hsz
              clear g3 M3 M2 hcd
              go_wp2_with fail
              go_roundw
              case rel =>
                first | exact RowV.mk p _ (by omega) (by go_num) (unhide HN) (unhide HM3) (unhide HG5) | (repeat apply Exists.intro; refine ⟨?_, rfl⟩; exact RowV.mk p _ (by omega) (by go_num) (unhide HN) (unhide HM3) (unhide HG5))
              case measure => simp [intOf]
          · have eal : a = l.length := by omega
            subst eal
            have HN := hide (Some.insert (unhide HS) (by omega) l.length (Nat.le_refl _) (fun j hj => hb j (by omega) hj) (fun h => absurd h (Nat.lt_irrefl _)))
            rw [List.take_length, List.drop_length, List.append_nil] at HN
            clear hb
            have hc0 := Is.cells_from (unhide HI) 0 l.length (by omega)
            rw [List.drop_zero, List.take_length] at hc0
            go_wp2_with fail
            go_quiet (fail)
            have Iw := (unhide HI).drewN (n + nq)
            have Gw := grown_drewN (unhide HG) (n + nq)
            go_wp2_with (at_builtin; refine wp_appI _ rfl (.tmp 31) (.tmp 34) rfl wo.heap.size _ [] rfl (World.ownsRow_nil _ _ _ _) ⟨g, 0, none⟩ cap l.length l rfl rfl hc0 ?a1 (Nat.le_refl _) ?_)
            case a1 => simp; omega
            intro m1 w3 M1 g1
            try rw [List.nil_append] at M1
            have I3 := ownsRow_kept0 Iw (by simpa [Value.ownBlock] using g1)
            have G3 := grown_trans Gw g1 (Or.inl rfl)
            have hz3 : wo.heap.size ≤ w3.heap.size := g1.size
            clear g1
            go_wp2_with (at_builtin; refine wp_appI _ rfl (.tmp 36) (.tmp 38) rfl wo.heap.size _ l rfl (World.ownsRow.alloc M1 _) ⟨w3.heap.size, 0, none⟩ 1 1 [p] rfl rfl (cell_one_new _ _ _) ?a2 ?a3 ?_)
            case a2 => simp; omega
            case a3 => simp; omega
            intro m2 w4 M2 g2
            have hm1 : ∀ k, m1.ownBlock = some k → wo.heap.size ≤ k := fun k hk => (World.ownsRow.lt M1 k hk).1
            have I4 : Is w4 w.heap.size (.slice (some ⟨g, 0, none⟩) l.length cap) l := World.ownsRow.kept (World.ownsRow.alloc I3 _) g2 (by
              right
              intro e
              have := hm1 g e.symm
              omega)
            have G4 := grown_trans (grown_alloc G3 _) g2 (by
              cases e : m1.ownBlock with
              | none => exact Or.inl rfl
              | some k => exact Or.inr ⟨k, rfl, by have := hm1 k e; omega⟩)
            have hz4 : wo.heap.size ≤ w4.heap.size := by have := g2.size; simp at this; omega
            have HG4 := hide G4
            obtain ⟨ad, had⟩ : ∃ ad : Addr, Hid ((if cap = l.length then some (⟨g, 0, none⟩ : Addr) else some ⟨g, l.length, none⟩) = some ad) := by
              by_cases hcl : cap = l.length
              · exact ⟨_, by rw [if_pos hcl]; exact rfl⟩
              · exact ⟨_, by rw [if_neg hcl]; exact rfl⟩
            have hl3 : (l ++ [p]).length + ([] : List Nat).length < 1000000 := by simp; omega
            clear g2 I3 G3 M1 I4 G4 Iw Gw hc0
            go_wp2_with (at_builtin; refine wp_appI _ rfl (.tmp 40) (.tmp 43) rfl wo.heap.size _ (l ++ [p]) rfl M2 ad (cap - l.length) 0 [] rfl (congrArg (fun z => Value.slice z 0 (cap - l.length)) (unhide had)) (fun j u h => by simp [byI] at h) hl3 hz4 ?_)
            all_goals
              intro m3 w5 M3 g3
              have HG5 := hide (grown_trans (unhide HG4) g3 (by
                cases e : m2.ownBlock with
                | none => exact Or.inl rfl
                | some k => exact Or.inr ⟨k, rfl, by have := (World.ownsRow.lt M2 k e).1; omega⟩))
              have HM3 : Hid (Is w5 w.heap.size m3 (l ++ [p])) := by
                try rw [List.append_nil] at M3
                exact Is.mono M3 hsz
              clear g3 M3 M2
              go_wp2_with fail
              go_roundw
              case rel =>
                first | exact RowV.mk p _ (by omega) (by go_num) (unhide HN) (unhide HM3) (unhide HG5) | (repeat apply Exists.intro; refine ⟨?_, rfl⟩; exact RowV.mk p _ (by omega) (by go_num) (unhide HN) (unhide HM3) (unhide HG5))
              case measure => simp [intOf]
end Go.Proofs.YthlincikgdblfaaGreat

namespace Go.Proofs.YthlincikgdblfaaGreat
set_option linter.unusedVariables false
namespace Rot
/-- Where p stands in t. -/
def stands (t p : List UInt8) (i : Nat) : Bool := (t.drop i).take p.length == p
def placesIn (t p : List UInt8) : List Nat := (List.range (t.length + 1 - p.length)).filter (stands t p)
end Rot
open Go.RowKit
theorem extract_piece (t : List UInt8) (i k : Nat) : ((Sb t).extract i (i + k)).toList = (t.drop i).take k := by
  rw [ByteArray.toList_eq, ByteArray.data_extract]
  simp [Sb]
theorem cell_grown6 {w w' : World} {a : Addr} {v : Value} (h : w.cell? a = some v) (g : w.grownBy w' none) : w'.cell? a = some v :=
  (World.cell?_of_block (g.block a.block (World.block_lt_of_cell? w a h) (by simp))).trans h
/-- Behind i places. -/
def PlcV (w : World) (t p : List UInt8) (l i : Value) (wr : World) : Prop := ∃ k : Nat, k ≤ t.length + 1 - p.length ∧ i = .int .i64 (k : Int) ∧ Is wr w.heap.size l ((List.range k).filter (Rot.stands t p)) ∧ w.grownBy wr none
theorem PlcV.mk {w : World} {t p : List UInt8} {l i : Value} {wr : World} (k : Nat) (h1 : k ≤ t.length + 1 - p.length) (h2 : i = .int .i64 (k : Int)) (h3 : Is wr w.heap.size l ((List.range k).filter (Rot.stands t p))) (h4 : w.grownBy wr none) : PlcV w t p l i wr := ⟨k, h1, h2, h3, h4⟩

set_option maxRecDepth 100000 in
set_option maxHeartbeats 1000000 in
theorem rplaces_any (t : List UInt8) (p : ByteArray) (g : Nat) (w : World) (hc : w.cell? ⟨g, 0, none⟩ = some (.string (Sb t))) (ht : t.length ≤ 250) (hp : p.size ≤ maxLen) :
    Calls Tryz.prog 75 #[.pointer (some ⟨g, 0, none⟩), .string p] w fun e w' => ∃ v, e = .returned v ∧ Is w' w.heap.size v (Rot.placesIn t p.data.toList) ∧ w.grownBy w' none := by
  unfold maxLen at hp
  have hpl : p.data.toList.length = p.size := by simp
  have hsz := Sb_size t
  go_enter Tryz.func75, Tryz.ntmps75
  go_wp2_with fail
  go_loopw [5, 6] (fun l i wr => PlcV w t p.data.toList l i wr) (fun _ i _ => t.length + 1 - (intOf i).toNat)
  case atStart => exact PlcV.mk 0 (Nat.zero_le _) rfl (World.ownsRow_nil _ _ _ _) (World.grownBy.refl _ _)
  case round =>
    obtain ⟨k, hk, rfl, L, G⟩ := hrel
    rw [hpl] at hk
    have hcw := cell_grown6 hc G
    have hz := G.size
    by_cases hlt : k + p.size ≤ t.length
    · have dl : decide ((k : Int) + (p.size : Int) ≤ (t.length : Int)) = true := by simp; omega
      have hbe : (((Sb t).extract k (k + p.size)).toList == p.toList) = Rot.stands t p.data.toList k := by
        rw [extract_piece]
        unfold Rot.stands
        rw [hpl, ByteArray.toList_eq]
      have HF : Hid ((List.range (k + 1)).filter (Rot.stands t p.data.toList) = (List.range k).filter (Rot.stands t p.data.toList) ++ if Rot.stands t p.data.toList k = true then [k] else []) := by
        refine hide ?_
        rw [List.range_succ, List.filter_append]
        simp [List.filter_cons]
      have hll : ((List.range k).filter (Rot.stands t p.data.toList)).length ≤ 250 := by
        have := List.length_filter_le (Rot.stands t p.data.toList) (List.range k)
        rw [List.length_range] at this
        omega
      cases hst : Rot.stands t p.data.toList k with
      | true =>
        rw [hst] at hbe HF
        rw [if_pos rfl] at HF
        clear hst
        go_wp2_with (at_builtin; refine wp_appI _ rfl (.tmp 31) (.tmp 33) rfl w.heap.size _ _ rfl (World.ownsRow.alloc L _) ⟨wr.heap.size, 0, none⟩ 1 1 [k] rfl rfl (cell_one_new _ _ _) ?a2 ?a3 ?_)
        case a2 => simp only [List.length_singleton]; omega
        case a3 => simp; omega
        intro v1 w1 L1 g1
        have HL : Hid (Is w1 w.heap.size v1 ((List.range (k + 1)).filter (Rot.stands t p.data.toList))) := by rw [unhide HF]; exact L1
        have HG := hide (grown_trans (grown_alloc G _) g1 (by
          cases e : u5.ownBlock with
          | none => exact Or.inl rfl
          | some j => exact Or.inr ⟨j, rfl, (World.ownsRow.lt L j e).1⟩))
        clear L1 g1 L G
        go_wp2_with fail
        go_roundw
        case rel =>
          first | exact PlcV.mk (k + 1) (by omega) (by go_num) (unhide HL) (unhide HG) | (repeat apply Exists.intro; refine ⟨?_, rfl⟩; exact PlcV.mk (k + 1) (by omega) (by go_num) (unhide HL) (unhide HG))
        case measure => simp [intOf]; omega
      | false =>
        rw [hst] at hbe HF
        have HL : Hid (Is wr w.heap.size u5 ((List.range (k + 1)).filter (Rot.stands t p.data.toList))) := by
          refine hide ?_
          rw [unhide HF]
          simpa using L
        have HG := hide G
        clear hst L G
        go_wp2_with fail
        go_roundw
        case rel =>
          first | exact PlcV.mk (k + 1) (by omega) (by go_num) (unhide HL) (unhide HG) | (repeat apply Exists.intro; refine ⟨?_, rfl⟩; exact PlcV.mk (k + 1) (by omega) (by go_num) (unhide HL) (unhide HG))
        case measure => simp [intOf]; omega
    · have dl : decide ((k : Int) + (p.size : Int) ≤ (t.length : Int)) = false := by simp; omega
      have ek : k = t.length + 1 - p.data.toList.length := by omega
      have HL : Hid (Is wr w.heap.size u5 (Rot.placesIn t p.data.toList)) := by
        unfold Rot.placesIn
        rw [← ek]
        exact L
      have HG := hide G
      have hkp : k + p.size ≤ 9223372036854775807 := by omega
      clear L G ek
      go_wp2_with fail
      go_ret
      exact ⟨_, rfl, unhide HL, unhide HG⟩

theorem places_le (t p : List UInt8) : (Rot.placesIn t p).length ≤ t.length + 1 := by
  unfold Rot.placesIn
  have := List.length_filter_le (Rot.stands t p) (List.range (t.length + 1 - p.length))
  rw [List.length_range] at this
  omega
theorem rcount_any (t : List UInt8) (p : ByteArray) (g : Nat) (w : World) (hc : w.cell? ⟨g, 0, none⟩ = some (.string (Sb t))) (ht : t.length ≤ 250) (hp : p.size ≤ maxLen) :
    Calls Tryz.prog 43 #[.pointer (some ⟨g, 0, none⟩), .string p] w fun e w' => e = .returned (.int .i64 ((Rot.placesIn t p.data.toList).length : Nat)) ∧ w.grownBy w' none := by
  have hcon := rplaces_any t p g w hc ht hp
  have hpl := places_le t p.data.toList
  generalize Rot.placesIn t p.data.toList = pl at hcon hpl ⊢
  go_enter Tryz.func43, Tryz.ntmps43
  go_wp2_with fail
  refine hcon.mono ?_
  rintro e w1 ⟨v, rfl, L, G⟩
  have HG := hide G
  rcases L.form with ⟨rfl, e0⟩ | ⟨g1, cap, rfl, _, _, _⟩
  · subst e0
    clear L G hcon
    go_wp2_with fail
    go_ret
    exact ⟨rfl, unhide HG⟩
  · clear L G hcon
    go_wp2_with fail
    go_ret
    exact ⟨rfl, unhide HG⟩
theorem rlocate_no (t : List UInt8) (p : ByteArray) (g : Nat) (m : Int) (w : World) (hm : m < 0) :
    Calls Tryz.prog 44 #[.pointer (some ⟨g, 0, none⟩), .string p, .int .i64 m] w fun e w' => e = .returned (.tuple #[.slice none 0 0, .int .i64 1]) ∧ w' = w := by
  have d : decide (m < 0) = true := by simpa using hm
  go_enter Tryz.func44, Tryz.ntmps44
  go_wp2_with fail
  go_ret2
  exact ⟨rfl, rfl⟩
theorem rlocate_yes (t : List UInt8) (p : ByteArray) (g m : Nat) (w : World) (hc : w.cell? ⟨g, 0, none⟩ = some (.string (Sb t))) (ht : t.length ≤ 250) (hp : p.size ≤ maxLen) (hm : m ≤ 9223372036854775807) :
    Calls Tryz.prog 44 #[.pointer (some ⟨g, 0, none⟩), .string p, .int .i64 m] w fun e w' => ∃ v, e = .returned (.tuple #[v, .int .i64 0]) ∧ Ints w' v (((Rot.placesIn t p.data.toList).take m).map fun (n : Nat) => (n : Int)) ∧ w.grownBy w' none := by
  have d : decide ((m : Int) < 0) = false := by simp
  have hcon := rplaces_any t p g w hc ht hp
  have hpl := places_le t p.data.toList
  have hmem : ∀ x ∈ Rot.placesIn t p.data.toList, x ≤ 1000 := by
    intro x hx
    unfold Rot.placesIn at hx
    have := List.mem_range.1 (List.mem_filter.1 hx).1
    omega
  have HM := hide hmem
  clear hmem
  generalize Rot.placesIn t p.data.toList = pl at hcon hpl HM ⊢
  go_enter Tryz.func44, Tryz.ntmps44
  go_wp2_with fail
  refine hcon.mono ?_
  rintro e w1 ⟨v, rfl, L, G⟩
  have HG := hide G
  clear G hcon
  have hints : ∀ (k : Nat) a c, k ≤ pl.length → (pl.take k = [] ∨ ∃ b off, a = some ⟨b, off, none⟩ ∧ ∀ i (hi : i < k), ∃ hi2 : i < pl.length, w1.cell? ⟨b, off + i, none⟩ = some (.int .i64 ((pl[i]'hi2 : Nat) : Int))) → Ints w1 (.slice a k c) ((pl.take k).map fun (n : Nat) => (n : Int)) := by
    intro k a c hk h
    refine ⟨?_, by simp; omega, a, c, by simp [hk], ?_⟩
    · intro z hz
      obtain ⟨x, hx, rfl⟩ := List.mem_map.1 hz
      have := unhide HM x (List.mem_of_mem_take hx)
      omega
    · rcases h with h | ⟨b, off, e, h⟩
      · exact Or.inl (by rw [h]; rfl)
      · right
        refine ⟨b, off, e, ?_⟩
        intro i hi
        simp only [List.length_map, List.length_take] at hi
        obtain ⟨hi2, hcell⟩ := h i (by omega)
        rw [hcell]
        simp
  have HI := hide hints
  clear hints
  rcases L.form with ⟨rfl, e0⟩ | ⟨g1, cap, rfl, hb1, hb2, hb3⟩
  · subst e0
    clear L
    go_wp2_with fail
    go_ret2
    refine ⟨_, rfl, ?_, unhide HG⟩
    rw [List.take_nil]
    exact unhide HI 0 none 0 (by simp) (Or.inl rfl)
  · have HC := hide (fun i hi => Is.cell L i hi)
    clear L
    by_cases hlm : m < pl.length
    · have d2 : decide ((m : Int) < (pl.length : Int)) = true := by simp; omega
      go_wp2_with fail
      go_ret2
      refine ⟨_, rfl, ?_, unhide HG⟩
      refine unhide HI m _ _ (by omega) (Or.inr ⟨g1, 0, rfl, fun i hi => ⟨by omega, ?_⟩⟩)
      rw [Nat.zero_add]
      exact unhide HC i (by omega)
    · have d2 : decide ((m : Int) < (pl.length : Int)) = false := by simp; omega
      go_wp2_with fail
      go_ret2
      refine ⟨_, rfl, ?_, unhide HG⟩
      have e : pl.take m = pl.take pl.length := by rw [List.take_length, List.take_of_length_le (by omega)]
      rw [e]
      refine unhide HI pl.length _ _ (Nat.le_refl _) (Or.inr ⟨g1, 0, rfl, fun i hi => ⟨hi, ?_⟩⟩)
      rw [Nat.zero_add]
      exact unhide HC i hi
end Go.Proofs.YthlincikgdblfaaGreat

namespace Go.Proofs.YthlincikgdblfaaGreat
set_option linter.unusedVariables false
namespace Rot
theorem gives_pos {sz : List Int} (hp : ∀ z ∈ sz, 1 ≤ z) (k : Nat) {n : Int} (hn : 1 ≤ n) : 1 ≤ gives sz k n := by
  unfold gives
  cases h : sz[k]? with
  | none => exact hn
  | some z =>
    have := hp z (List.mem_of_getElem? h)
    simp only []
    split <;> omega
/-- Where each read gives something all is read. -/
theorem reads_pos {len : Nat} {sz : List Int} (hp : ∀ z ∈ sz, 1 ≤ z) {at' calls no : Nat} {ok : Bool} {k : Nat} (h : Reads len sz at' calls no ok k) : ok = true := by
  induction h with
  | done => rfl
  | fails a c n hl e =>
    have h1 := gives_pos hp c (n := ((asked len a : Nat) : Int)) (by unfold asked; omega)
    unfold readStep at e
    rw [if_neg (by omega), if_neg (by omega)] at e
    cases e
  | goes _ _ _ _ _ _ _ _ _ _ ih => exact ih
end Rot
open Go.RowKit
/-- APPEND OF INTS, however many. -/
theorem wp_appL (w : World) {ops : Array Oper} {rest : List Oper} {o : Oper} {a : Act} {Q : Exit → Act → World → Prop} (hgd : o.guard = none) (s x : Operand)
    (ho : o.op = .call { callee := .builtin .append, args := #[s, x], argTypes := #[25, 25] })
    (B : Nat) (v : Value) (l : List Nat) (hs : a.eval s = v) (hown : Is w B v l) (ad : Addr) (c n : Nat) (m : List Nat) (hn : m.length = n) (hx : a.eval x = .slice (some ad) n c) (hm : ∀ j u, (byI m)[j]? = some u → w.cell? (ad.add j) = some u)
    (hl : (l.length + m.length) * 8 ≤ 140737488355328) (hB : B ≤ w.heap.size)
    (h : ∀ v' w', Is w' B v' (l ++ m) → w.grownBy w' v.ownBlock → wpList Tryz.prog ops Q rest (a.put o.dst v') w') : wpList Tryz.prog ops Q (o :: rest) a w := by
  subst hn
  obtain ⟨i0, hi, hz0, hz1, hz2⟩ := info_parts infoI
  refine wpList_append_own_at w hgd s x 25 ho B 3 i0 (.int .i64 0) 1 8 Tryz.underlying25 hi hz0 hz1 hz2 rfl (by decide) v l.length (byI l) hs hown ad m.length c (byI m) hx (by rw [byI_length]; omega) hm (byI_one m) (by unfold maxLen; omega) hl hB ?_
  intro v' w' h1 h2 h3 h4
  refine h v' w' ?_ h2
  unfold Is; rw [byI_append, List.length_append]; exact h1
/-- Sizes of reads that give something each. -/
def slowOf (zs : List Int) : List Nat := zs.map fun z => 1 + pickOf z 70
theorem slow_len (zs : List Int) : (slowOf zs).length = zs.length := by simp [slowOf]
def SlowV (w : World) (zs : List Int) (l i : Value) (wr : World) : Prop := ∃ k : Nat, k ≤ zs.length ∧ i = .int .i64 (k : Int) ∧ Is wr w.heap.size l (slowOf (zs.take k)) ∧ w.grownBy wr none
theorem SlowV.mk {w : World} {zs : List Int} {l i : Value} {wr : World} (k : Nat) (h1 : k ≤ zs.length) (h2 : i = .int .i64 (k : Int)) (h3 : Is wr w.heap.size l (slowOf (zs.take k))) (h4 : w.grownBy wr none) : SlowV w zs l i wr := ⟨k, h1, h2, h3, h4⟩
set_option maxRecDepth 100000 in
set_option maxHeartbeats 1000000 in
theorem slow_any (v : Value) (zs : List Int) (w : World) (hI : Ints w v zs) (hz : zs.length * 8 ≤ 140737488355328) :
    Calls Tryz.prog 16 #[v] w fun e w' => ∃ v', e = .returned v' ∧ Is w' w.heap.size v' (slowOf zs) ∧ w.grownBy w' none := by
  have HI := hide hI
  obtain ⟨hb, _, a, c, rfl, hcells⟩ := hI
  have HC := hide hcells
  have HBd := hide hb
  clear hcells hb
  go_enter Tryz.func16, Tryz.ntmps16
  go_wp2_with fail
  go_loopw [3, 4] (fun l i wr => SlowV w zs l i wr) (fun _ i _ => zs.length - (intOf i).toNat)
  case atStart => exact SlowV.mk 0 (Nat.zero_le _) rfl (World.ownsRow_nil _ _ _ _) (World.grownBy.refl _ _)
  case round =>
    obtain ⟨k, hk, rfl, L, G⟩ := hrel
    have hzz := G.size
    by_cases hlt : k < zs.length
    · rcases unhide HC with h0 | ⟨b, off, rfl, hc⟩
      · rw [h0] at hlt; simp at hlt
      have hck := G.cell (hc k hlt) (by simp)
      have hbd := unhide HBd _ (List.getElem_mem hlt)
      have hcon := fun W => kpick_any (zs[k]'hlt) 70 W hbd.1 hbd.2 (by decide) (by decide)
      have hpk := pick_lt (zs[k]'hlt) 70 (by decide)
      have HF : Hid (slowOf (zs.take (k + 1)) = slowOf (zs.take k) ++ [1 + pickOf (zs[k]'hlt) 70]) := by
        unfold slowOf
        rw [List.take_succ_eq_append_getElem hlt, List.map_append]
        rfl
      generalize pickOf (zs[k]'hlt) 70 = pk at hcon hpk HF
      generalize zs[k]'hlt = zk at hcon hck hbd
      have hll : (slowOf (zs.take k)).length = k := by rw [slow_len, List.length_take]; omega
      clear hc
      go_wp2_with fail
      refine (hcon _).mono ?_
      rintro e w1 ⟨rfl, hw1⟩
      subst hw1
      clear hcon
      go_wp2_with (at_builtin; refine wp_appL _ rfl (.tmp 11) (.tmp 18) rfl w.heap.size _ _ rfl (World.ownsRow.alloc L _) ⟨w1.heap.size, 0, none⟩ 1 1 [1 + pk] rfl rfl (cell_one_new _ _ _) ?a2 ?a3 ?_)
      case a2 => simp only [List.length_singleton, hll]; omega
      case a3 => simp; omega
      intro v1 w2 L1 g1
      have HL : Hid (Is w2 w.heap.size v1 (slowOf (zs.take (k + 1)))) := by rw [unhide HF]; exact L1
      have HG := hide (grown_trans (grown_alloc G _) g1 (by
        cases e : u3.ownBlock with
        | none => exact Or.inl rfl
        | some j => exact Or.inr ⟨j, rfl, (World.ownsRow.lt L j e).1⟩))
      clear L1 g1 L G
      go_wp2_with fail
      go_roundw
      case rel =>
        first | exact SlowV.mk (k + 1) (by omega) (by go_num) (unhide HL) (unhide HG) | (repeat apply Exists.intro; refine ⟨?_, rfl⟩; exact SlowV.mk (k + 1) (by omega) (by go_num) (unhide HL) (unhide HG))
      case measure => simp [intOf]; omega
    · have ek : k = zs.length := by omega
      subst ek
      rw [List.take_length] at L
      have HL := hide L
      have HG := hide G
      clear L G
      go_wp2_with fail
      go_ret
      exact ⟨_, rfl, unhide HL, unhide HG⟩
end Go.Proofs.YthlincikgdblfaaGreat
