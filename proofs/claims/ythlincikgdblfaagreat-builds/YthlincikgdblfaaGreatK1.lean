import Derived.Test.YthlincikgdblfaaGreatK0
namespace Go.Proofs.YthlincikgdblfaaGreat
set_option linter.unusedVariables false
namespace Rot

/-- There is just one order of a text's ends. -/
theorem rows_unique {t : List UInt8} {a b : List Nat} (ha : IsRows t a) (hb : IsRows t b) : a = b := by
  refine List.Perm.eq_of_pairwise (le := fun p q => less (t.drop p) (t.drop q) = true) ?_ ha.order hb.order (ha.perm.trans hb.perm.symm)
  intro p q _ _ h1 h2
  have := less_trans _ _ _ h1 h2
  rw [less_irrefl] at this
  cases this

/-- Not behind. -/
def leq (a b : List UInt8) : Prop := less b a = false
theorem leq_antisymm (a b : List UInt8) (h1 : leq a b) (h2 : leq b a) : a = b := less_total _ _ h2 h1
theorem less_asymm (a b : List UInt8) (h : less a b = true) : less b a = false := by
  cases h2 : less b a with
  | false => rfl
  | true =>
    have := less_trans _ _ _ h h2
    rw [less_irrefl] at this
    cases this
theorem less_take : ∀ (k : Nat) (a b : List UInt8), less a b = true → leq (a.take k) (b.take k)
  | 0, a, b, _ => by simp [leq, less]
  | k + 1, [], b, _ => by cases b <;> simp [leq, less]
  | k + 1, x :: a, [], h => by simp [less] at h
  | k + 1, x :: a, y :: b, h => by
    have ih := less_take k a b
    simp only [less] at h
    simp only [leq, List.take_succ_cons, less]
    by_cases xy : x < y
    · have yx : ¬ y < x := by rw [UInt8.lt_iff_toNat_lt] at *; omega
      rw [if_neg yx, if_pos xy]
    · rw [if_neg xy] at h
      by_cases yx : y < x
      · rw [if_pos yx] at h; cases h
      · rw [if_neg yx] at h ⊢
        rw [if_neg xy]
        exact ih h

/-- The first k bytes of each row's end. -/
def ends (t : List UInt8) (rows : List Nat) (k : Nat) : List (List UInt8) := rows.map fun p => (t.drop p).take k

theorem ends_sorted {t : List UInt8} {rows : List Nat} (h : IsRows t rows) (k : Nat) : (ends t rows k).Pairwise leq := by
  unfold ends
  rw [List.pairwise_map]
  exact h.order.imp fun {p q} hpq => less_take k _ _ hpq

theorem rows_nodup {t : List UInt8} {rows : List Nat} (h : IsRows t rows) : rows.Nodup := h.perm.nodup_iff.2 List.nodup_range

theorem filter_erase {t : List UInt8} {rows : List Nat} (h : IsRows t rows) : (rows.filter fun p => decide (0 < p)) = rows.eraseIdx (rows.idxOf 0) := by
  rw [← List.erase_eq_eraseIdx_of_idxOf rfl, (rows_nodup h).erase_eq_filter]
  congr 1
  funext p
  by_cases hp : 0 < p
  · have : p ≠ 0 := by omega
    simp [hp, this]
  · have : p = 0 := by omega
    simp [this]

theorem map_eraseIdx {α β : Type} (f : α → β) : ∀ (l : List α) (i : Nat), (l.map f).eraseIdx i = (l.eraseIdx i).map f
  | [], _ => by simp
  | _ :: _, 0 => by simp
  | a :: l, i + 1 => by simp [map_eraseIdx f l i]

/-- One byte more ahead of each end. -/
theorem step_back {t : List UInt8} {rows : List Nat} (h : IsRows t rows) (k : Nat) : (ends t rows (k + 1)).Perm ([] :: List.zipWith List.cons (columnOf t rows) ((ends t rows k).eraseIdx (rows.idxOf 0))) := by
  have e1 : List.zipWith List.cons (columnOf t rows) ((ends t rows k).eraseIdx (rows.idxOf 0)) = (rows.filter fun p => decide (0 < p)).map fun p => (t.drop (p - 1)).take (k + 1) := by
    unfold ends columnOf
    rw [map_eraseIdx, ← filter_erase h, List.zipWith_map, List.zipWith_self]
    apply List.map_congr_left
    intro p hp
    rw [List.mem_filter] at hp
    have h1 := rows_lt h p hp.1
    have h2 : 0 < p := by simpa using hp.2
    have h3 : p - 1 < t.length := by omega
    rw [List.drop_eq_getElem_cons h3, List.take_succ_cons, List.getElem?_eq_getElem h3]
    simp only [Option.getD_some]
    rw [show p - 1 + 1 = p by omega]
  rw [e1]
  have e2 : (rows.filter fun p => decide (0 < p)).Perm ((List.range t.length).map Nat.succ) := by
    refine (h.perm.filter _).trans ?_
    rw [List.range_succ_eq_map, List.filter_cons]
    rw [if_neg (by simp), List.filter_eq_self.2 (by intro a ha; rw [List.mem_map] at ha; obtain ⟨b, _, rfl⟩ := ha; simp)]
  have e3 : ((rows.filter fun p => decide (0 < p)).map fun p => (t.drop (p - 1)).take (k + 1)).Perm ((List.range t.length).map fun p => (t.drop p).take (k + 1)) := by
    refine (e2.map _).trans ?_
    rw [List.map_map]
    exact List.Perm.of_eq (List.map_congr_left (fun a _ => by simp))
  refine List.Perm.trans ?_ (e3.symm.cons [])
  unfold ends
  refine (h.perm.map _).trans ?_
  rw [List.range_succ, List.map_append]
  simp only [List.map_cons, List.map_nil, List.drop_length, List.take_nil]
  exact List.perm_append_comm

theorem ends_eq {t u : List UInt8} {a b : List Nat} (ha : IsRows t a) (hb : IsRows u b) (hc : columnOf t a = columnOf u b) (hl : a.idxOf 0 = b.idxOf 0) (hn : t.length = u.length) (k : Nat) : ends t a k = ends u b k := by
  induction k with
  | zero =>
    unfold ends
    have l1 : a.length = t.length + 1 := by rw [ha.perm.length_eq, List.length_range]
    have l2 : b.length = u.length + 1 := by rw [hb.perm.length_eq, List.length_range]
    apply List.ext_getElem?
    intro j
    by_cases hj : j < a.length
    · have hj2 : j < b.length := by omega
      simp [hj, hj2]
    · have hj2 : ¬ j < b.length := by omega
      simp [hj, hj2]
  | succ k ih =>
    refine List.Perm.eq_of_pairwise (le := leq) (fun x y _ _ h1 h2 => leq_antisymm x y h1 h2) (ends_sorted ha _) (ends_sorted hb _) ?_
    refine (step_back ha k).trans (List.Perm.trans ?_ (step_back hb k).symm)
    rw [ih, hc, hl]

/-- The column and the last row tell the text. -/
theorem text_of {t u : List UInt8} {a b : List Nat} (ha : IsRows t a) (hb : IsRows u b) (hc : columnOf t a = columnOf u b) (hl : a.idxOf 0 = b.idxOf 0) (hn : t.length = u.length) : t = u := by
  have h := ends_eq ha hb hc hl hn t.length
  have i1 : a.idxOf 0 < a.length := List.idxOf_lt_length_of_mem (rows_zero ha)
  have i2 : b.idxOf 0 < b.length := List.idxOf_lt_length_of_mem (rows_zero hb)
  have e1 : (ends t a t.length)[a.idxOf 0]? = some t := by
    unfold ends
    rw [List.getElem?_map, List.getElem?_eq_getElem i1, List.getElem_idxOf]
    simp
  have e2 : (ends u b t.length)[b.idxOf 0]? = some u := by
    unfold ends
    rw [List.getElem?_map, List.getElem?_eq_getElem i2, List.getElem_idxOf, hn]
    simp
  rw [h, hl, e2] at e1
  exact (Option.some.inj e1).symm
end Rot
end Go.Proofs.YthlincikgdblfaaGreat
