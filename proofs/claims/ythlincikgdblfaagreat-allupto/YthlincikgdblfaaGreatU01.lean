import Derived.Test.YthlincikgdblfaaGreatV10
import Derived.Test.YthlincikgdblfaaGreatV33
namespace Go.Proofs.YthlincikgdblfaaGreat
set_option linter.unusedVariables false
open Go.RowKit

/-- APPEND OF A LIST OF INTS, nil or not. -/
theorem wp_appX (w : World) {ops : Array Oper} {rest : List Oper} {o : Oper} {a : Act} {Q : Exit → Act → World → Prop} (hgd : o.guard = none) (s x : Operand)
    (ho : o.op = .call { callee := .builtin .append, args := #[s, x], argTypes := #[25, 25] })
    (B : Nat) (v : Value) (l : List Nat) (hs : a.eval s = v) (hown : Is w B v l) (B2 : Nat) (xv : Value) (m : List Nat) (hx : a.eval x = xv) (hm : Is w B2 xv m)
    (hl : (l.length + m.length) * 8 ≤ 140737488355328) (hB : B ≤ w.heap.size)
    (h : ∀ v' w', Is w' B v' (l ++ m) → w.grownBy w' v.ownBlock → wpList Tryz.prog ops Q rest (a.put o.dst v') w') : wpList Tryz.prog ops Q (o :: rest) a w := by
  rcases hm.form with ⟨rfl, rfl⟩ | ⟨g, cap, rfl, _, _, _⟩
  · refine wp_appI0 w hgd s x ho B v l hs hown hx ?_
    refine h v w ?_ (World.grownBy.refl _ _)
    rw [List.append_nil]
    exact hown
  · refine wp_appL w hgd s x ho B v l hs hown ⟨g, 0, none⟩ cap m.length m rfl hx ?_ hl hB h
    intro j u hu
    have hj : j < m.length := by
      have := (List.getElem?_eq_some_iff.1 hu).1
      simpa [byI_length] using this
    rw [addr_add, Is.cell hm j hj]
    rw [← hu]
    simp [byI, hj]
theorem Is.take {w : World} {B g cap : Nat} {l : List Nat} (h : Is w B (.slice (some ⟨g, 0, none⟩) l.length cap) l) (k : Nat) (hk : k ≤ l.length) : Is w B (.slice (some ⟨g, 0, none⟩) k cap) (l.take k) := by
  have hlk : (l.take k).length = k := by simp; omega
  unfold Is at h ⊢
  rw [hlk]
  obtain ⟨h1, h2⟩ := h
  refine ⟨by simp [byI]; omega, ?_⟩
  rcases h2 with ⟨h2, _⟩ | ⟨g', cap', cur, hv, hb, hg, hn, hm, hc, ht⟩
  · cases h2
  · cases hv
    refine Or.inr ⟨g, cap, cur, rfl, hb, hg, by omega, hm, hc, ?_⟩
    have e : byI (l.take k) = (byI l).take k := by simp [byI]
    rw [e, ← ht, List.take_take, Nat.mul_one, Nat.mul_one, Nat.min_eq_left hk]
theorem Is.nil (w : World) (B : Nat) : Is w B (.slice none 0 0) [] := World.ownsRow_nil _ _ _ _
/-- The first eight. -/
theorem few_is (zs : List Int) (k : Nat) : (∀ x ∈ (slowOf zs).take k, x ≤ 1000) ∧ (∀ x ∈ (slowOf zs).take k, 1 ≤ x) := by
  refine ⟨fun x hx => slow_bound zs x (List.mem_of_mem_take hx), fun x hx => ?_⟩
  obtain ⟨y, _, rfl⟩ := List.mem_map.1 (List.mem_of_mem_take hx)
  omega
/-- What the two sources of Failed bring. -/
theorem failed_few {len : Nat} (f : List Nat) (z : Nat) (hf : ∀ x ∈ f, 1 ≤ x) (hl : f.length ≤ 8) (hlen : 577 ≤ len) : (z < 8 → ∃ k, Rot.Reads len ((f ++ List.replicate z 0).map fun (n : Nat) => (n : Int)) 0 0 0 true k) ∧ (8 ≤ z → Rot.Reads len ((f ++ List.replicate z 0).map fun (n : Nat) => (n : Int)) 0 0 0 false (f.length + 8)) := by
  have e : (f ++ List.replicate z 0).map (fun (n : Nat) => (n : Int)) = f.map (fun (n : Nat) => (n : Int)) ++ (List.replicate z (0 : Int) ++ []) := by simp
  obtain ⟨a, ha, hr⟩ := Rot.reads_few (len := len) (sz := (f ++ List.replicate z 0).map fun (n : Nat) => (n : Int)) f (List.replicate z (0 : Int) ++ []) 0 0 hf (by rw [List.drop_zero]; exact e) (by omega)
  rw [Nat.zero_add] at hr
  have hd : ((f ++ List.replicate z 0).map fun (n : Nat) => (n : Int)).drop f.length = List.replicate z (0 : Int) ++ [] := by
    rw [e, List.drop_left' (by simp)]
  refine ⟨fun hz => ?_, fun hz => hr _ _ (Rot.reads_eight ha z [] f.length hd hz)⟩
  obtain ⟨k, r⟩ := Rot.reads_rest (len := len) (sz := (f ++ List.replicate z 0).map fun (n : Nat) => (n : Int)) (len - a) a (f.length + z) (0 + z) (Nat.le_refl _) (by simp)
  exact ⟨k, hr _ _ (Rot.reads_zeros ha z [] f.length 0 hd (by omega) _ _ r)⟩
theorem failed_minus {len : Nat} (f : List Nat) (hf : ∀ x ∈ f, 1 ≤ x) (hl : f.length ≤ 8) (hlen : 577 ≤ len) : Rot.Reads len (f.map (fun (n : Nat) => (n : Int)) ++ [-1]) 0 0 0 false (f.length + 1) := by
  obtain ⟨a, ha, hr⟩ := Rot.reads_few (len := len) (sz := f.map (fun (n : Nat) => (n : Int)) ++ [-1]) f [-1] 0 0 hf (by simp) (by omega)
  rw [Nat.zero_add] at hr
  refine hr _ _ (Rot.reads_minus ha ?_)
  rw [List.getElem?_append_right (by simp)]
  simp
/-- LOAD, of a file, where it is known how the reads end. -/
theorem load_reads_yes (b : Nat) (S : ByteArray) (vs : Value) (sz : List Int) (t : List UInt8) (r k0 : Nat) (w : World) (h : Src w b S vs sz 0) (hlow : ∀ a n c, vs = .slice (some a) n c → a.block < w.heap.size) (hf : Rot.IsFile S.data.toList t r) (hr : Rot.Reads S.size sz 0 0 0 true k0) :
    Calls Tryz.prog 15 #[.pointer (some ⟨b, 0, none⟩)] w fun e w' => ∃ p, e = .returned (.tuple #[.pointer (some ⟨p, 0, none⟩), .int .i64 0]) ∧ Src w' b S vs sz k0 ∧ w.grownBy w' (some b) := by
  have hs : S.size ≤ 4000 := by
    have := hf.size.2.2
    have e : S.data.toList.length = S.size := by simp
    omega
  refine (load_is b S vs sz w h hs hlow).mono ?_
  rintro e w' ⟨k, h1, h2, (⟨h3, h4⟩ | ⟨h3, h4, h5⟩ | ⟨p, t', r', h3, h4, h5⟩)⟩
  · have := (hr.same h4).1
    cases this
  · exact absurd ⟨t, r, hf⟩ h5
  · obtain ⟨_, rfl⟩ := hr.same h4
    exact ⟨p, h3, h1, h2⟩
theorem load_reads_no (b : Nat) (S : ByteArray) (vs : Value) (sz : List Int) (k0 : Nat) (w : World) (h : Src w b S vs sz 0) (hs : S.size ≤ 4000) (hlow : ∀ a n c, vs = .slice (some a) n c → a.block < w.heap.size) (hr : Rot.Reads S.size sz 0 0 0 false k0) :
    Calls Tryz.prog 15 #[.pointer (some ⟨b, 0, none⟩)] w fun e w' => e = .returned (.tuple #[.pointer none, .int .i64 3]) ∧ Src w' b S vs sz k0 ∧ w.grownBy w' (some b) := by
  refine (load_is b S vs sz w h hs hlow).mono ?_
  rintro e w' ⟨k, h1, h2, (⟨h3, h4⟩ | ⟨h3, h4, h5⟩ | ⟨p, t', r', h3, h4, h5⟩)⟩
  · obtain ⟨_, rfl⟩ := hr.same h4
    exact ⟨h3, h1, h2⟩
  · have := (hr.same h4).1
    cases this
  · have := (hr.same h4).1
    cases this
end Go.Proofs.YthlincikgdblfaaGreat

namespace Go.Proofs.YthlincikgdblfaaGreat
set_option linter.unusedVariables false
open Go.RowKit

/-- A list of whole numbers of the call's own. -/
def IsZ (w : World) (B : Nat) (v : Value) (l : List Int) : Prop := w.ownsRow B 3 1 v l.length (l.map (Value.int .i64))
theorem IsZ.of {w : World} {B : Nat} {v : Value} {l : List Nat} (h : Is w B v l) : IsZ w B v (l.map fun (n : Nat) => (n : Int)) := by
  unfold IsZ
  rw [List.length_map, List.map_map]
  exact h
theorem IsZ.nil (w : World) (B : Nat) : IsZ w B (.slice none 0 0) [] := World.ownsRow_nil _ _ _ _
theorem IsZ.form {w : World} {B : Nat} {v : Value} {l : List Int} (h : IsZ w B v l) : (v = .slice none 0 0 ∧ l = []) ∨ ∃ g cap, v = .slice (some ⟨g, 0, none⟩) l.length cap ∧ B ≤ g ∧ g < w.heap.size ∧ l.length ≤ cap := by
  rcases h.2 with ⟨hv, hn⟩ | ⟨g, cap, cur, hv, hb, hg, hc, _⟩
  · exact Or.inl ⟨hv, List.eq_nil_of_length_eq_zero hn⟩
  · exact Or.inr ⟨g, cap, hv, hb, (Array.getElem?_eq_some_iff.1 hg).1, hc⟩
theorem IsZ.cell {w : World} {B : Nat} {l : List Int} {g n cap : Nat} (h : IsZ w B (.slice (some ⟨g, 0, none⟩) n cap) l) (j : Nat) (hj : j < l.length) : w.cell? ⟨g, j, none⟩ = some (.int .i64 (l[j]'hj)) := by
  have := World.ownsRow.cells h (g := g) rfl j (.int .i64 (l[j]'hj)) (by simp [hj])
  rw [addr_add] at this
  exact this
theorem IsZ.ints {w : World} {B : Nat} {v : Value} {l : List Int} (h : IsZ w B v l) (hb : ∀ z ∈ l, -9223372036854775808 ≤ z ∧ z ≤ 9223372036854775807) (hl : l.length ≤ 9223372036854775807) : Ints w v l := by
  refine ⟨hb, hl, ?_⟩
  rcases h.form with ⟨rfl, rfl⟩ | ⟨g, cap, rfl, _, _, _⟩
  · exact ⟨none, 0, rfl, Or.inl rfl⟩
  · exact ⟨some ⟨g, 0, none⟩, cap, rfl, Or.inr ⟨g, 0, rfl, fun i hi => by rw [Nat.zero_add]; exact IsZ.cell h i hi⟩⟩
theorem IsZ.below {w w' : World} {B b : Nat} {v : Value} {l : List Int} (h : IsZ w B v l) (H : Below b w w') (hb : ∀ g n c, v = .slice (some ⟨g, 0, none⟩) n c → g < b) : IsZ w' B v l := by
  obtain ⟨h1, h2⟩ := h
  refine ⟨h1, ?_⟩
  rcases h2 with h2 | ⟨g, cap, cur, hv, hB, hg, hr⟩
  · exact Or.inl h2
  · exact Or.inr ⟨g, cap, cur, hv, hB, by rw [H.block g (hb _ _ _ hv)]; exact hg, hr⟩
theorem IsZ.shape {w : World} {B : Nat} {v : Value} {l : List Int} (h : IsZ w B v l) : ∃ a n c, v = .slice a n c ∧ n = l.length := by
  rcases h.form with ⟨rfl, rfl⟩ | ⟨g, cap, rfl, _⟩
  · exact ⟨_, _, _, rfl, rfl⟩
  · exact ⟨_, _, _, rfl, rfl⟩
theorem intZ_one (l : List Int) : ∀ u ∈ l.map (Value.int .i64), u.oneCell' = true := by
  intro u hu
  obtain ⟨z, _, rfl⟩ := List.mem_map.1 hu
  rfl
/-- APPEND OF WHOLE NUMBERS that lie at an address. -/
theorem wp_appZ (w : World) {ops : Array Oper} {rest : List Oper} {o : Oper} {a : Act} {Q : Exit → Act → World → Prop} (hgd : o.guard = none) (s x : Operand)
    (ho : o.op = .call { callee := .builtin .append, args := #[s, x], argTypes := #[25, 25] })
    (B : Nat) (v : Value) (l : List Int) (hs : a.eval s = v) (hown : IsZ w B v l) (ad : Addr) (c n : Nat) (m : List Int) (hn : m.length = n) (hx : a.eval x = .slice (some ad) n c) (hm : ∀ j u, (m.map (Value.int .i64))[j]? = some u → w.cell? (ad.add j) = some u)
    (hl : (l.length + m.length) * 8 ≤ 140737488355328) (hB : B ≤ w.heap.size)
    (h : ∀ v' w', IsZ w' B v' (l ++ m) → w.grownBy w' v.ownBlock → wpList Tryz.prog ops Q rest (a.put o.dst v') w') : wpList Tryz.prog ops Q (o :: rest) a w := by
  subst hn
  obtain ⟨i0, hi, hz0, hz1, hz2⟩ := info_parts infoI
  refine wpList_append_own_at w hgd s x 25 ho B 3 i0 (.int .i64 0) 1 8 Tryz.underlying25 hi hz0 hz1 hz2 rfl (by decide) v l.length (l.map (Value.int .i64)) hs hown ad m.length c (m.map (Value.int .i64)) hx (by rw [List.length_map]; omega) hm (intZ_one m) (by unfold maxLen; omega) hl hB ?_
  intro v' w' h1 h2 h3 h4
  refine h v' w' ?_ h2
  unfold IsZ; rw [List.map_append, List.length_append]; exact h1
/-- APPEND OF A LIST, nil or not. -/
theorem wp_appZX (w : World) {ops : Array Oper} {rest : List Oper} {o : Oper} {a : Act} {Q : Exit → Act → World → Prop} (hgd : o.guard = none) (s x : Operand)
    (ho : o.op = .call { callee := .builtin .append, args := #[s, x], argTypes := #[25, 25] })
    (B : Nat) (v : Value) (l : List Int) (hs : a.eval s = v) (hown : IsZ w B v l) (B2 : Nat) (xv : Value) (m : List Int) (hx : a.eval x = xv) (hm : IsZ w B2 xv m)
    (hl : (l.length + m.length) * 8 ≤ 140737488355328) (hB : B ≤ w.heap.size)
    (h : ∀ v' w', IsZ w' B v' (l ++ m) → w.grownBy w' v.ownBlock → wpList Tryz.prog ops Q rest (a.put o.dst v') w') : wpList Tryz.prog ops Q (o :: rest) a w := by
  rcases hm.form with ⟨rfl, rfl⟩ | ⟨g, cap, rfl, _, _, _⟩
  · obtain ⟨i0, hi, hz0, hz1, hz2⟩ := info_parts infoI
    refine wpList_append_own_none hgd s x 25 ho B 3 i0 1 Tryz.underlying25 hi v l.length (l.map (Value.int .i64)) hs hown hx ?_
    refine h v w ?_ (World.grownBy.refl _ _)
    rw [List.append_nil]
    exact hown
  · refine wp_appZ w hgd s x ho B v l hs hown ⟨g, 0, none⟩ cap m.length m rfl hx ?_ hl hB h
    intro j u hu
    have hj : j < m.length := by
      have := (List.getElem?_eq_some_iff.1 hu).1
      simpa using this
    rw [addr_add, IsZ.cell hm j hj]
    rw [← hu]
    simp [hj]
/-- A source whose sizes are still written. -/
structure Sr (w : World) (b : Nat) (S : ByteArray) (v : Value) (l : List Int) : Prop where
  c0 : w.cell? ⟨b, 0, none⟩ = some (.string S)
  c1 : w.cell? ⟨b, 1, none⟩ = some v
  c2 : w.cell? ⟨b, 2, none⟩ = some (.int .i64 0)
  f1 : w.frozen? ⟨b, 1, none⟩ = false
  f2 : w.frozen? ⟨b, 2, none⟩ = false
  f0 : w.frozen? ⟨b, 0, none⟩ = false
  own : IsZ w (b + 1) v l
theorem Sr.new (w : World) (S : ByteArray) : Sr (w.alloc (.cells #[.string S, .slice none 0 0, .int .i64 0] 37)) w.heap.size S (.slice none 0 0) [] := by
  refine ⟨?_, ?_, ?_, ?_, ?_, ?_, IsZ.nil _ _⟩
  all_goals go_simp
theorem Sr.lt {w : World} {b : Nat} {S : ByteArray} {v : Value} {l : List Int} (h : Sr w b S v l) : b < w.heap.size := World.block_lt_of_cell? w ⟨b, 0, none⟩ h.c0
theorem Sr.block {w : World} {b : Nat} {S : ByteArray} {v : Value} {l : List Int} (h : Sr w b S v l) : ∀ k, v.ownBlock = some k → b + 1 ≤ k := fun k e => (World.ownsRow.lt h.own k e).1
/-- Behind an append. -/
theorem Sr.grown {w w' : World} {b : Nat} {S : ByteArray} {v : Value} {l : List Int} (h : Sr w b S v l) (G : w.grownBy w' v.ownBlock) : w'.cell? ⟨b, 0, none⟩ = some (.string S) ∧ w'.cell? ⟨b, 1, none⟩ = some v ∧ w'.cell? ⟨b, 2, none⟩ = some (.int .i64 0) ∧ w'.frozen? ⟨b, 1, none⟩ = false ∧ w'.frozen? ⟨b, 2, none⟩ = false ∧ w'.frozen? ⟨b, 0, none⟩ = false ∧ Below b w w' := by
  have hne : v.ownBlock ≠ some b := fun e => by have := h.block b e; omega
  have hlt := h.lt
  exact ⟨(grown_cell G hlt hne 0).trans h.c0, (grown_cell G hlt hne 1).trans h.c1, (grown_cell G hlt hne 2).trans h.c2, (grown_frozen G hlt hne 1).trans h.f1, (grown_frozen G hlt hne 2).trans h.f2, (grown_frozen G hlt hne 0).trans h.f0, below_grown G (Nat.le_of_lt hlt) (fun k e => by have := h.block k e; omega)⟩
theorem Sr.app {w w' : World} {b : Nat} {S : ByteArray} {v v' : Value} {l m : List Int} (h : Sr w b S v l) (G : w.grownBy w' v.ownBlock) (hI : IsZ w' (b + 1) v' m) : Sr (w'.setCell ⟨b, 1, none⟩ v') b S v' m ∧ Below b w (w'.setCell ⟨b, 1, none⟩ v') := by
  obtain ⟨g0, g1, g2, g3, g4, g6, g5⟩ := h.grown G
  have ne : ∀ i, i ≠ 1 → (⟨b, 1, none⟩ : Addr) ≠ ⟨b, i, none⟩ := fun i hi e => hi (by injection e with _ e2; exact e2.symm)
  refine ⟨⟨?_, World.cell?_setCell_same _ _ _ g1, ?_, ?_, ?_, ?_, ?_⟩, g5.trans (below_setCell w' b b 1 v' (Nat.le_refl _))⟩
  · exact (World.cell?_setCell_other _ _ _ _ (ne 0 (by decide))).trans g0
  · exact (World.cell?_setCell_other _ _ _ _ (ne 2 (by decide))).trans g2
  · exact (World.frozen?_setCell _ _ _ _).trans g3
  · exact (World.frozen?_setCell _ _ _ _).trans g4
  · exact (World.frozen?_setCell _ _ _ _).trans g6
  · exact ownsRow_setCell_below hI (by simp) _
theorem Sr.src {w : World} {b : Nat} {S : ByteArray} {v : Value} {l : List Int} (h : Sr w b S v l) (hb : ∀ z ∈ l, -9223372036854775808 ≤ z ∧ z ≤ 9223372036854775807) (hl : l.length ≤ 9223372036854775807) : Src w b S v l 0 ∧ ∀ a n c, v = .slice (some a) n c → a.block < w.heap.size := by
  have hf := h.own.form
  refine ⟨⟨h.c0, h.c1, h.c2, h.f2, h.f0, ?_, h.own.ints hb hl⟩, ?_⟩
  · intro a n c e
    rcases hf with ⟨rfl, _⟩ | ⟨g, cap, rfl, h1, _, _⟩
    · cases e
    · cases e
      show g ≠ b
      omega
  · intro a n c e
    rcases hf with ⟨rfl, _⟩ | ⟨g, cap, rfl, _, h2, _⟩
    · cases e
    · cases e
      exact h2
theorem Sr.alloc {w : World} {b : Nat} {S : ByteArray} {v : Value} {l : List Int} (h : Sr w b S v l) (o : Obj) : Sr (w.alloc o) b S v l := by
  have G : w.grownBy (w.alloc o) none := World.grownBy_alloc w o none
  have hlt := h.lt
  exact ⟨(grown_cell G hlt (by simp) 0).trans h.c0, (grown_cell G hlt (by simp) 1).trans h.c1, (grown_cell G hlt (by simp) 2).trans h.c2, (grown_frozen G hlt (by simp) 1).trans h.f1, (grown_frozen G hlt (by simp) 2).trans h.f2, (grown_frozen G hlt (by simp) 0).trans h.f0, World.ownsRow.alloc h.own o⟩
theorem Below.src {b : Nat} {w w' : World} {B : Nat} (h : Below b w w') (hB : B ≤ b) : Below B w w' := h.mono hB
theorem zeros_conv (w : World) (B g n : Nat) (h : w.ownsRow B 5 1 (.slice (some ⟨g, 0, none⟩) n n) n (List.replicate n (.int .u8 0))) : (convert 45 9 (.slice (some ⟨g, 0, none⟩) n n)).run Tryz.prog w = .ok (.string (Sb (List.replicate n 0))) w := by
  have e : by8 (List.replicate n 0) = List.replicate n (.int .u8 0) := by simp [by8]
  have hl : (List.replicate n (0 : UInt8)).length = n := List.length_replicate
  have hB : Bs w B (.slice (some ⟨g, 0, none⟩) (List.replicate n (0 : UInt8)).length n) (List.replicate n 0) := by
    unfold Bs
    rw [hl, e]
    exact h
  have := conv_str hB
  rw [hl] at this
  exact this
end Go.Proofs.YthlincikgdblfaaGreat

namespace Go.Proofs.YthlincikgdblfaaGreat
set_option linter.unusedVariables false
open Go.RowKit

/-- LOAD, in the document's words. -/
theorem load_all (b : Nat) (S : ByteArray) (vs : Value) (sz : List Int) (w : World) (h : Src w b S vs sz 0) (hs : S.size ≤ 4611686018427387904) (hlow : ∀ a n c, vs = .slice (some a) n c → a.block < w.heap.size) :
    Calls Tryz.prog 15 #[.pointer (some ⟨b, 0, none⟩)] w fun e w' => ∃ x k n p, e = .returned (.tuple #[.pointer p, .int .i64 (n : Nat)]) ∧ n ≤ 4 ∧ Loaded S sz x k n ∧ Src w' b S vs sz k ∧ w.grownBy w' (some b) ∧ (x = none → p = none) ∧ (∀ t r, x = some (t, r) → ∃ q, p = some ⟨q, 0, none⟩ ∧ Idx w.heap.size w' q S.data.toList t r) := by
  by_cases hbig : 4000 < S.size
  · refine (load_large b S vs sz w h hbig hs hlow).mono ?_
    rintro e w' ⟨rfl, h1, h2⟩
    exact ⟨none, 0, 2, none, rfl, by omega, Loaded.large hbig, h1, grown_wk h2, fun _ => rfl, fun t r e => by cases e⟩
  · refine (load_is b S vs sz w h (by omega) hlow).mono ?_
    rintro e w' ⟨k, h1, h2, (⟨h3, h4⟩ | ⟨h3, h4, h5⟩ | ⟨p, t', r', h3, h4, h5⟩)⟩
    · exact ⟨none, k, 3, none, h3, by omega, Loaded.broken (by omega) k h4, h1, h2, fun _ => rfl, fun t r e => by cases e⟩
    · exact ⟨none, k, 4, none, h3, by omega, Loaded.refused (by omega) k h4 h5, h1, h2, fun _ => rfl, fun t r e => by cases e⟩
    · exact ⟨some (t', r'), k, 0, some ⟨p, 0, none⟩, h3, by omega, Loaded.taken (by omega) k h4 t' r' h5.1, h1, h2, fun e => (by cases e), fun t r e => (by cases e; exact ⟨p, rfl, h5⟩)⟩
/-- All blocks but those of K are as they were. -/
structure Keeps (K : Nat → Prop) (w w' : World) : Prop where
  size : w.heap.size ≤ w'.heap.size
  block : ∀ i, i < w.heap.size → ¬ K i → w'.heap[i]? = w.heap[i]?
theorem Keeps.refl (K : Nat → Prop) (w : World) : Keeps K w w := ⟨Nat.le_refl _, fun _ _ _ => rfl⟩
theorem Keeps.trans {K : Nat → Prop} {a b c : World} (h : Keeps K a b) (k : Keeps K b c) : Keeps K a c := ⟨Nat.le_trans h.size k.size, fun i hi hK => (k.block i (Nat.lt_of_lt_of_le hi h.size) hK).trans (h.block i hi hK)⟩
theorem Keeps.mono {K K' : Nat → Prop} {w w' : World} (h : Keeps K w w') (hK : ∀ i, K i → K' i) : Keeps K' w w' := ⟨h.size, fun i hi hn => h.block i hi (fun hk => hn (hK i hk))⟩
theorem Keeps.grown {K : Nat → Prop} {w w' : World} {r : Option Nat} (G : w.grownBy w' r) (hr : ∀ j, r = some j → K j ∨ w.heap.size ≤ j) : Keeps K w w' := ⟨G.size, fun i hi hK => G.block i hi (fun e => by
  rcases hr i e.symm with h | h
  · exact hK h
  · omega)⟩
theorem Keeps.below {K : Nat → Prop} {w w' : World} (H : Below w.heap.size w w') : Keeps K w w' := ⟨H.size, fun i hi _ => H.block i hi⟩
/-- Blocks from B on (that there were) may change. -/
theorem Keeps.from' {K : Nat → Prop} {w0 w w' : World} (h : Keeps K w0 w) (hs : w.heap.size ≤ w'.heap.size) (H : ∀ i, i < w0.heap.size → ¬ K i → w'.heap[i]? = w.heap[i]?) : Keeps K w0 w' := ⟨Nat.le_trans h.size hs, fun i hi hK => (H i hi hK).trans (h.block i hi hK)⟩
theorem Keeps.cell {K : Nat → Prop} {w w' : World} (h : Keeps K w w') {b j : Nat} {x : Value} (hK : ¬ K b) (hx : w.cell? ⟨b, j, none⟩ = some x) : w'.cell? ⟨b, j, none⟩ = some x :=
  (World.cell?_of_block (h.block b (World.block_lt_of_cell? w _ hx) hK)).trans hx
/-- An index and the document's. -/
structure Pr where
  p : Nat
  g : Nat
  t : List UInt8
  r : Nat
def Pr.at (w : World) (q : Pr) : Prop := (∃ B s, Idx B w q.p s q.t q.r) ∧ w.cell? ⟨q.g, 0, none⟩ = some (.string (Sb q.t)) ∧ w.cell? ⟨q.g, 1, none⟩ = some (.int .i64 (q.r : Int))
def PairOk (K : Nat → Prop) (w : World) (q : Pr) : Prop := ∀ w', Keeps K w w' → q.at w'
theorem PairOk.step {K K' : Nat → Prop} {w w' : World} {q : Pr} (h : PairOk K w q) (H : Keeps K w w') (hK : ∀ i, i < w.heap.size → K' i → K i) : PairOk K' w' q := by
  intro w'' H'
  refine h w'' ⟨Nat.le_trans H.size H'.size, fun i hi hn => ?_⟩
  exact (H'.block i (Nat.lt_of_lt_of_le hi H.size) (fun hk => hn (hK i hi hk))).trans (H.block i hi hn)
/-- What the world of a script may write: its own block, the row of its indexes. -/
def Kof (K0 : Nat → Prop) (g : Nat) (v : Value) (i : Nat) : Prop := i = g ∨ v.ownBlock = some i ∨ K0 i
def noK (_ : Nat) : Prop := False
def prCells (ps : List Pr) : List Value := ps.flatMap fun q => [.pointer (some ⟨q.p, 0, none⟩), .pointer (some ⟨q.g, 0, none⟩)]
theorem prCells_len (ps : List Pr) : (prCells ps).length = ps.length * 2 := by
  unfold prCells
  induction ps with
  | nil => rfl
  | cons a l ih => rw [List.flatMap_cons, List.length_append, ih]; simp; omega
theorem prCells_snoc (ps : List Pr) (q : Pr) : prCells (ps ++ [q]) = prCells ps ++ [.pointer (some ⟨q.p, 0, none⟩), .pointer (some ⟨q.g, 0, none⟩)] := by
  unfold prCells
  rw [List.flatMap_append]
  rfl
theorem prCells_at (ps : List Pr) : ∀ (i : Nat) (hi : i < ps.length), (prCells ps)[i * 2]? = some (.pointer (some ⟨(ps[i]'hi).p, 0, none⟩)) ∧ (prCells ps)[i * 2 + 1]? = some (.pointer (some ⟨(ps[i]'hi).g, 0, none⟩)) := by
  induction ps with
  | nil => intro i hi; simp at hi
  | cons a l ih =>
    intro i hi
    unfold prCells at ih ⊢
    rw [List.flatMap_cons]
    cases i with
    | zero => simp
    | succ i =>
      have := ih i (by simpa using hi)
      rw [List.getElem?_append_right (by simp; omega), List.getElem?_append_right (by simp; omega)]
      simp only [List.length_cons, List.length_nil, List.getElem_cons_succ]
      rw [show (i + 1) * 2 - (0 + 1 + 1) = i * 2 by omega, show (i + 1) * 2 + 1 - (0 + 1 + 1) = i * 2 + 1 by omega]
      exact this
/-- THE WORLD OF A SCRIPT at block g: its indexes. -/
structure Wv (K0 : Nat → Prop) (g : Nat) (w : World) (v : Value) (ps : List Pr) : Prop where
  c0 : w.cell? ⟨g, 0, none⟩ = some v
  f0 : w.frozen? ⟨g, 0, none⟩ = false
  row : w.ownsRow (g + 1) 87 2 v ps.length (prCells ps)
  ok : ∀ q ∈ ps, PairOk (Kof K0 g v) w q
  kb : ∀ i, K0 i → i < w.heap.size
/-- What a step leaves of all else. -/
structure Up (g : Nat) (v : Value) (w w' : World) : Prop where
  keeps : Keeps (Kof noK g v) w w'
  below : Below g w w'
  cells : ∀ j, j ≠ 0 → w'.cell? ⟨g, j, none⟩ = w.cell? ⟨g, j, none⟩
  free : ∀ j, w'.frozen? ⟨g, j, none⟩ = w.frozen? ⟨g, j, none⟩
theorem Up.grown {g : Nat} {v : Value} {w w' : World} (G : w.grownBy w' none) (hg : g < w.heap.size) : Up g v w w' := ⟨Keeps.grown G (fun j e => by cases e), below_grown G (Nat.le_of_lt hg) (fun k e => by cases e), fun j _ => grown_cell G hg (by simp) j, fun j => grown_frozen G hg (by simp) j⟩
end Go.Proofs.YthlincikgdblfaaGreat
