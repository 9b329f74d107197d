import Derived.Test.YthlincikgdblfaaGreatB0
import Derived.Test.YthlincikgdblfaaGreatK1
namespace Go.Proofs.YthlincikgdblfaaGreat
open Go.RowKit
set_option linter.unusedVariables false

theorem bytesLess_eq : ∀ a b : List UInt8, Op.bytesLess a b = Rot.less a b
  | [], [] => rfl
  | _ :: _, [] => rfl
  | [], _ :: _ => rfl
  | a :: x, b :: y => by
    have ih := bytesLess_eq x y
    simp only [Op.bytesLess, Rot.less]
    by_cases h1 : a < b
    · simp [h1]
    · by_cases h2 : b < a
      · have h3 : ¬ a = b := by intro e; subst e; exact h1 h2
        simp [h1, h2, h3]
      · have h3 : a = b := by
          apply UInt8.toNat_inj.1
          rw [UInt8.lt_iff_toNat_lt] at h1 h2
          omega
        subst h3
        simp [h1, ih]

/-- The ends from p on, in order. -/
structure Some (t : List UInt8) (p : Nat) (l : List Nat) : Prop where
  perm : l.Perm ((List.range (t.length + 1 - p)).map (· + p))
  order : l.Pairwise fun x y => Rot.less (t.drop x) (t.drop y) = true

theorem Some.insert {t : List UInt8} {p : Nat} {l : List Nat} (h : Some t (p + 1) l) (hp : p ≤ t.length) (at' : Nat) (ha : at' ≤ l.length) (h1 : ∀ j (hj : j < at'), Rot.less (t.drop (l[j]'(by omega))) (t.drop p) = true)
    (h2 : ∀ hj : at' < l.length, Rot.less (t.drop (l[at']'hj)) (t.drop p) = false) : Some t p (l.take at' ++ [p] ++ l.drop at') := by
  have hmem : ∀ x ∈ l, p < x ∧ x ≤ t.length := by
    intro x hx
    have := h.perm.mem_iff.1 hx
    rw [List.mem_map] at this
    obtain ⟨y, hy, rfl⟩ := this
    rw [List.mem_range] at hy
    omega
  refine ⟨?_, ?_⟩
  · have e1 : (l.take at' ++ [p] ++ l.drop at').Perm (p :: l) := by
      rw [List.append_assoc]
      refine (List.perm_append_comm (l₁ := l.take at')).trans ?_
      simp only [List.cons_append, List.nil_append]
      refine List.Perm.cons p ?_
      refine List.perm_append_comm.trans ?_
      rw [List.take_append_drop]
    refine e1.trans ?_
    have e2 : t.length + 1 - p = (t.length + 1 - (p + 1)) + 1 := by omega
    rw [e2, List.range_succ_eq_map, List.map_cons, List.map_map]
    simp only [Nat.zero_add]
    refine List.Perm.cons p (h.perm.trans (List.Perm.of_eq ?_))
    apply List.map_congr_left
    intro a _
    simp only [Function.comp]
    omega
  · have hlt : ∀ j (hj : j < l.length), at' ≤ j → Rot.less (t.drop p) (t.drop (l[j]'hj)) = true := by
      intro j hj hja
      have hal : at' < l.length := by omega
      have hm := hmem _ (List.getElem_mem hal)
      have hne : t.drop (l[at']'hal) ≠ t.drop p := drop_ne t _ _ (by omega) hp (by omega)
      have hat : Rot.less (t.drop p) (t.drop (l[at']'hal)) = true := by
        cases hx : Rot.less (t.drop p) (t.drop (l[at']'hal)) with
        | true => rfl
        | false => exact absurd (Rot.less_total _ _ (h2 hal) hx) hne
      by_cases hjj : at' = j
      · subst hjj; exact hat
      · have := (List.pairwise_iff_getElem.1 h.order) at' j hal hj (by omega)
        exact Rot.less_trans _ _ _ hat this
    rw [List.append_assoc, List.pairwise_append]
    refine ⟨h.order.sublist (List.take_sublist _ _), ?_, ?_⟩
    · simp only [List.cons_append, List.nil_append, List.pairwise_cons]
      refine ⟨?_, h.order.sublist (List.drop_sublist _ _)⟩
      intro x hx
      obtain ⟨j, hj, rfl⟩ := List.getElem_of_mem hx
      rw [List.length_drop] at hj
      rw [List.getElem_drop]
      exact hlt _ (by omega) (by omega)
    · intro x hx y hy
      obtain ⟨j, hj, rfl⟩ := List.getElem_of_mem hx
      rw [List.length_take] at hj
      rw [List.getElem_take]
      have hxp := h1 j (by omega)
      simp only [List.cons_append, List.nil_append, List.mem_cons] at hy
      rcases hy with rfl | hy
      · exact hxp
      · obtain ⟨i, hi, rfl⟩ := List.getElem_of_mem hy
        rw [List.length_drop] at hi
        rw [List.getElem_drop]
        exact Rot.less_trans _ _ _ hxp (hlt _ (by omega) (by omega))
theorem Some.mem {t : List UInt8} {p : Nat} {l : List Nat} (h : Some t p l) : ∀ x ∈ l, x ≤ t.length := by
  intro x hx
  have := h.perm.mem_iff.1 hx
  rw [List.mem_map] at this
  obtain ⟨y, hy, rfl⟩ := this
  rw [List.mem_range] at hy
  omega
theorem Some.rows {t : List UInt8} {l : List Nat} (h : Some t 0 l) : Rot.IsRows t l := ⟨by simpa using h.perm, h.order⟩
theorem Some.len {t : List UInt8} {p : Nat} {l : List Nat} (h : Some t p l) : l.length = t.length + 1 - p := by rw [h.perm.length_eq, List.length_map, List.length_range]

theorem byI_one (l : List Nat) : ∀ u ∈ byI l, u.oneCell' = true := by
  intro u hu
  simp only [byI, List.mem_map] at hu
  obtain ⟨b, _, rfl⟩ := hu
  rfl
theorem byI_length (l : List Nat) : (byI l).length = l.length := by simp [byI]
theorem byI_append (l m : List Nat) : byI (l ++ m) = byI l ++ byI m := by simp [byI]
theorem Is.cells_from {w : World} {B g n cap : Nat} {l : List Nat} (h : Is w B (.slice (some ⟨g, 0, none⟩) n cap) l) (k m : Nat) (hk : k + m ≤ l.length) : ∀ j u, (byI ((l.drop k).take m))[j]? = some u → w.cell? ((⟨g, k, none⟩ : Addr).add j) = some u := by
  intro j u hu
  have hj : j < m := by
    have := (List.getElem?_eq_some_iff.1 hu).1
    rw [byI_length, List.length_take, List.length_drop] at this
    omega
  have ha : (⟨g, k, none⟩ : Addr).add j = ⟨g, k + j, none⟩ := by
    unfold Addr.add
    by_cases h0 : j = 0
    · subst h0; rfl
    · simp [h0]
  rw [ha, Is.cell h (k + j) (by omega)]
  simp [byI, hj] at hu
  rw [List.getElem?_eq_getElem (by omega)] at hu
  simpa using hu
/-- APPEND OF INTS, from wherever they lie. -/
theorem wp_appI (w : World) {ops : Array Oper} {rest : List Oper} {o : Oper} {a : Act} {Q : Exit → Act → World → Prop} (hgd : o.guard = none) (s x : Operand)
    (ho : o.op = .call { callee := .builtin .append, args := #[s, x], argTypes := #[25, 25] })
    (B : Nat) (v : Value) (l : List Nat) (hs : a.eval s = v) (hown : Is w B v l) (ad : Addr) (c n : Nat) (m : List Nat) (hn : m.length = n) (hx : a.eval x = .slice (some ad) n c) (hm : ∀ j u, (byI m)[j]? = some u → w.cell? (ad.add j) = some u)
    (hl : l.length + m.length < 1000000) (hB : B ≤ w.heap.size)
    (h : ∀ v' w', Is w' B v' (l ++ m) → w.grownBy w' v.ownBlock → wpList Tryz.prog ops Q rest (a.put o.dst v') w') : wpList Tryz.prog ops Q (o :: rest) a w := by
  subst hn
  obtain ⟨i0, hi, hz0, hz1, hz2⟩ := info_parts infoI
  refine wpList_append_own_at w hgd s x 25 ho B 3 i0 (.int .i64 0) 1 8 Tryz.underlying25 hi hz0 hz1 hz2 rfl (by decide) v l.length (byI l) hs hown ad m.length c (byI m) hx (by rw [byI_length]; omega) hm (byI_one m) (by unfold maxLen; omega) (by omega) hB ?_
  intro v' w' h1 h2 h3 h4
  refine h v' w' ?_ h2
  unfold Is; rw [byI_append, List.length_append]; exact h1
theorem wp_appI0 (w : World) {ops : Array Oper} {rest : List Oper} {o : Oper} {a : Act} {Q : Exit → Act → World → Prop} (hgd : o.guard = none) (s x : Operand)
    (ho : o.op = .call { callee := .builtin .append, args := #[s, x], argTypes := #[25, 25] })
    (B : Nat) (v : Value) (l : List Nat) (hs : a.eval s = v) (hown : Is w B v l) (hx : a.eval x = .slice none 0 0)
    (h : wpList Tryz.prog ops Q rest (a.put o.dst v) w) : wpList Tryz.prog ops Q (o :: rest) a w := by
  obtain ⟨i0, hi, hz0, hz1, hz2⟩ := info_parts infoI
  exact wpList_append_own_none hgd s x 25 ho B 3 i0 1 Tryz.underlying25 hi v l.length (byI l) hs hown hx h
theorem Is.fresh {w wr w1 : World} {u : Value} {l : List Nat} (A : Is wr w.heap.size u l) (G : w.grownBy wr none) (g : wr.grownBy w1 u.ownBlock) : w.grownBy w1 none :=
  grown_trans G g (by
    cases eo : u.ownBlock with
    | none => exact Or.inl rfl
    | some j => exact Or.inr ⟨j, rfl, (World.ownsRow.lt A j eo).1⟩)
end Go.Proofs.YthlincikgdblfaaGreat
