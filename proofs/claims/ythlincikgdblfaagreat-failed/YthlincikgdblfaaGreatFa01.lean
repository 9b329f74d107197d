import Derived.Test.YthlincikgdblfaaGreatZ12
import Derived.Test.YthlincikgdblfaaGreatZ42
import Derived.Deep.Cut
import Derived.Deep.DeepCutAuto
namespace Go.Proofs.YthlincikgdblfaaGreat
set_option linter.unusedVariables false
namespace Rot
theorem gives_at {sz : List Int} {c : Nat} {z : Int} (h : sz[c]? = some z) (n : Int) : gives sz c n = if z < n then z else n := by
  unfold gives
  rw [h]
theorem gives_past {sz : List Int} {c : Nat} (h : sz[c]? = none) (n : Int) : gives sz c n = n := by
  unfold gives
  rw [h]
theorem asked_is {len at' : Nat} (h : at' < len) : 1 ≤ asked len at' ∧ asked len at' ≤ 64 ∧ at' + asked len at' ≤ len := by unfold asked; omega
/-- A read that gives something. -/
theorem reads_some {len : Nat} {sz : List Int} {at' calls no : Nat} (h : at' < len) {g : Nat} (hg : 1 ≤ g) (e : gives sz calls (asked len at') = (g : Int)) {ok : Bool} {k : Nat} (r : Reads len sz (at' + g) (calls + 1) 0 ok k) : Reads len sz at' calls no ok k := by
  refine Reads.goes at' calls no (at' + g) 0 ok k h ?_ r
  unfold readStep
  rw [e, if_neg (by omega), if_neg (by omega)]
  simp
/-- Some reads that give something each. -/
theorem reads_few {len : Nat} {sz : List Int} : ∀ (f : List Nat) (rest : List Int) (at' calls : Nat), (∀ x ∈ f, 1 ≤ x) → sz.drop calls = f.map (fun (n : Nat) => (n : Int)) ++ rest → at' + 64 * f.length < len → ∃ a, a < len ∧ ∀ ok k, Reads len sz a (calls + f.length) 0 ok k → Reads len sz at' calls 0 ok k
  | [], rest, at', calls, _, _, h => ⟨at', by simpa using h, fun ok k r => by simpa using r⟩
  | x :: f, rest, at', calls, hf, hd, h => by
    have hx := hf x (by simp)
    have hc : sz[calls]? = some (x : Int) := by
      have e : sz[calls]? = (sz.drop calls)[0]? := by simp
      rw [e, hd]
      rfl
    have hd2 : sz.drop (calls + 1) = f.map (fun (n : Nat) => (n : Int)) ++ rest := by
      rw [← List.drop_drop, hd]
      rfl
    simp only [List.length_cons] at h ⊢
    obtain ⟨a1, a2, a3⟩ := asked_is (len := len) (at' := at') (by omega)
    obtain ⟨g, hg1, hg2, hg3⟩ : ∃ g : Nat, 1 ≤ g ∧ g ≤ 64 ∧ gives sz calls (asked len at') = (g : Int) := by
      rw [gives_at hc]
      by_cases hlt : (x : Int) < (asked len at' : Nat)
      · exact ⟨x, hx, by omega, by rw [if_pos hlt]⟩
      · exact ⟨asked len at', a1, a2, by rw [if_neg hlt]⟩
    obtain ⟨a, ha, hr⟩ := reads_few (len := len) (sz := sz) f rest (at' + g) (calls + 1) (fun y hy => hf y (List.mem_cons_of_mem _ hy)) hd2 (by omega)
    refine ⟨a, ha, fun ok k r => reads_some (by omega) hg1 hg3 (hr ok k ?_)⟩
    rwa [show calls + 1 + f.length = calls + (f.length + 1) by omega]
/-- Reads that give nothing, fewer than eight. -/
theorem reads_zeros {len : Nat} {sz : List Int} {at' : Nat} (h : at' < len) : ∀ (z : Nat) (rest : List Int) (calls no : Nat), sz.drop calls = List.replicate z 0 ++ rest → no + z < 8 → ∀ ok k, Reads len sz at' (calls + z) (no + z) ok k → Reads len sz at' calls no ok k
  | 0, _, calls, no, _, _, ok, k, r => by simpa using r
  | z + 1, rest, calls, no, hd, hz, ok, k, r => by
    have hc : sz[calls]? = some 0 := by
      have e : sz[calls]? = (sz.drop calls)[0]? := by simp
      rw [e, hd]
      simp [List.replicate_succ]
    have hd2 : sz.drop (calls + 1) = List.replicate z 0 ++ rest := by
      rw [← List.drop_drop, hd]
      simp [List.replicate_succ]
    have a1 := (asked_is h).1
    refine Reads.goes at' calls no at' (no + 1) ok k h ?_ (reads_zeros h z rest (calls + 1) (no + 1) hd2 (by omega) ok k ?_)
    · have hg : gives sz calls (asked len at') = 0 := by rw [gives_at hc, if_pos (by omega)]
      unfold readStep
      rw [hg, if_neg (by omega), if_pos rfl, if_neg (by omega)]
    · rwa [show calls + 1 + z = calls + (z + 1) by omega, show no + 1 + z = no + (z + 1) by omega]
/-- Reads that give nothing, eight of them. -/
theorem reads_eight {len : Nat} {sz : List Int} {at' : Nat} (h : at' < len) (z : Nat) (rest : List Int) (calls : Nat) (hd : sz.drop calls = List.replicate z 0 ++ rest) (hz : 8 ≤ z) : Reads len sz at' calls 0 false (calls + 8) := by
  have e : List.replicate z (0 : Int) = List.replicate 7 0 ++ List.replicate (z - 7) 0 := by rw [List.replicate_append_replicate]; congr 1; omega
  rw [e, List.append_assoc] at hd
  refine reads_zeros h 7 _ calls 0 hd (by omega) false _ ?_
  refine Reads.fails at' (calls + 7) (0 + 7) h ?_
  have hc : sz[calls + 7]? = some 0 := by
    have e : sz[calls + 7]? = (sz.drop calls)[7]? := by simp
    rw [e, hd, List.getElem?_append_right (by simp), List.length_replicate, List.getElem?_append_left (by simp; omega), List.getElem?_replicate]
    rw [if_pos (by omega)]
  have a1 := (asked_is h).1
  have hg : gives sz (calls + 7) (asked len at') = 0 := by rw [gives_at hc, if_pos (by omega)]
  unfold readStep
  rw [hg, if_neg (by omega), if_pos rfl, if_pos rfl]
/-- A read that fails. -/
theorem reads_minus {len : Nat} {sz : List Int} {at' calls no : Nat} (h : at' < len) (hc : sz[calls]? = some (-1)) : Reads len sz at' calls no false (calls + 1) := by
  refine Reads.fails at' calls no h ?_
  have hg : gives sz calls (asked len at') = -1 := by rw [gives_at hc, if_pos (by omega)]
  unfold readStep
  rw [hg, if_pos (by omega)]
/-- With no more sizes all is read. -/
theorem reads_rest {len : Nat} {sz : List Int} : ∀ (m at' calls no : Nat), len - at' ≤ m → sz.length ≤ calls → ∃ k, Reads len sz at' calls no true k
  | 0, at', calls, no, hm, _ => ⟨calls, Reads.done at' calls no (by omega)⟩
  | m + 1, at', calls, no, hm, hl => by
    by_cases h : at' < len
    · obtain ⟨a1, a2, a3⟩ := asked_is h
      obtain ⟨k, r⟩ := reads_rest (len := len) (sz := sz) m (at' + asked len at') (calls + 1) 0 (by omega) (by omega)
      exact ⟨k, reads_some h a1 (gives_past (List.getElem?_eq_none hl) _) r⟩
    · exact ⟨calls, Reads.done at' calls no (by omega)⟩
end Rot
end Go.Proofs.YthlincikgdblfaaGreat

namespace Go.Proofs.YthlincikgdblfaaGreat
set_option linter.unusedVariables false
open Go.RowKit

/-- APPEND OF A LIST OF INTS, nil or not. -/
theorem wp_appX (w : World) {ops : Array Oper} {rest : List Oper} {o : Oper} {a : Act} {Q : Exit → Act → World → Prop} (hgd : o.guard = none) (s x : Operand)
    (ho : o.op = .call { callee := .builtin .append, args := #[s, x], argTypes := #[25, 25] })
    (B : Nat) (v : Value) (l : List Nat) (hs : a.eval s = v) (hown : Is w B v l) (B2 : Nat) (xv : Value) (m : List Nat) (hx : a.eval x = xv) (hm : Is w B2 xv m)
    (hl : (l.length + m.length) * 8 ≤ 140737488355328) (hB : B ≤ w.heap.size)
    (h : ∀ v' w', Is w' B v' (l ++ m) → w.grownBy w' v.ownBlock → wpList Tryz.prog ops Q rest (a.put o.dst v') w') : wpList Tryz.prog ops Q (o :: rest) a w := by
  rcases hm.form with ⟨rfl, rfl⟩ | ⟨g, cap, rfl, _, _, _⟩
  · refine wp_appI0 w hgd s x ho B v l hs hown hx ?_
    refine h v w ?_ (World.grownBy.refl _ _)
    rw [List.append_nil]
    exact hown
  · refine wp_appL w hgd s x ho B v l hs hown ⟨g, 0, none⟩ cap m.length m rfl hx ?_ hl hB h
    intro j u hu
    have hj : j < m.length := by
      have := (List.getElem?_eq_some_iff.1 hu).1
      simpa [byI_length] using this
    rw [addr_add, Is.cell hm j hj]
    rw [← hu]
    simp [byI, hj]
theorem Is.take {w : World} {B g cap : Nat} {l : List Nat} (h : Is w B (.slice (some ⟨g, 0, none⟩) l.length cap) l) (k : Nat) (hk : k ≤ l.length) : Is w B (.slice (some ⟨g, 0, none⟩) k cap) (l.take k) := by
  have hlk : (l.take k).length = k := by simp; omega
  unfold Is at h ⊢
  rw [hlk]
  obtain ⟨h1, h2⟩ := h
  refine ⟨by simp [byI]; omega, ?_⟩
  rcases h2 with ⟨h2, _⟩ | ⟨g', cap', cur, hv, hb, hg, hn, hm, hc, ht⟩
  · cases h2
  · cases hv
    refine Or.inr ⟨g, cap, cur, rfl, hb, hg, by omega, hm, hc, ?_⟩
    have e : byI (l.take k) = (byI l).take k := by simp [byI]
    rw [e, ← ht, List.take_take, Nat.mul_one, Nat.mul_one, Nat.min_eq_left hk]
theorem Is.nil (w : World) (B : Nat) : Is w B (.slice none 0 0) [] := World.ownsRow_nil _ _ _ _
/-- The first eight. -/
theorem few_is (zs : List Int) (k : Nat) : (∀ x ∈ (slowOf zs).take k, x ≤ 1000) ∧ (∀ x ∈ (slowOf zs).take k, 1 ≤ x) := by
  refine ⟨fun x hx => slow_bound zs x (List.mem_of_mem_take hx), fun x hx => ?_⟩
  obtain ⟨y, _, rfl⟩ := List.mem_map.1 (List.mem_of_mem_take hx)
  omega
/-- What the two sources of Failed bring. -/
theorem failed_few {len : Nat} (f : List Nat) (z : Nat) (hf : ∀ x ∈ f, 1 ≤ x) (hl : f.length ≤ 8) (hlen : 577 ≤ len) : (z < 8 → ∃ k, Rot.Reads len ((f ++ List.replicate z 0).map fun (n : Nat) => (n : Int)) 0 0 0 true k) ∧ (8 ≤ z → Rot.Reads len ((f ++ List.replicate z 0).map fun (n : Nat) => (n : Int)) 0 0 0 false (f.length + 8)) := by
  have e : (f ++ List.replicate z 0).map (fun (n : Nat) => (n : Int)) = f.map (fun (n : Nat) => (n : Int)) ++ (List.replicate z (0 : Int) ++ []) := by simp
  obtain ⟨a, ha, hr⟩ := Rot.reads_few (len := len) (sz := (f ++ List.replicate z 0).map fun (n : Nat) => (n : Int)) f (List.replicate z (0 : Int) ++ []) 0 0 hf (by rw [List.drop_zero]; exact e) (by omega)
  rw [Nat.zero_add] at hr
  have hd : ((f ++ List.replicate z 0).map fun (n : Nat) => (n : Int)).drop f.length = List.replicate z (0 : Int) ++ [] := by
    rw [e, List.drop_left' (by simp)]
  refine ⟨fun hz => ?_, fun hz => hr _ _ (Rot.reads_eight ha z [] f.length hd hz)⟩
  obtain ⟨k, r⟩ := Rot.reads_rest (len := len) (sz := (f ++ List.replicate z 0).map fun (n : Nat) => (n : Int)) (len - a) a (f.length + z) (0 + z) (Nat.le_refl _) (by simp)
  exact ⟨k, hr _ _ (Rot.reads_zeros ha z [] f.length 0 hd (by omega) _ _ r)⟩
theorem failed_minus {len : Nat} (f : List Nat) (hf : ∀ x ∈ f, 1 ≤ x) (hl : f.length ≤ 8) (hlen : 577 ≤ len) : Rot.Reads len (f.map (fun (n : Nat) => (n : Int)) ++ [-1]) 0 0 0 false (f.length + 1) := by
  obtain ⟨a, ha, hr⟩ := Rot.reads_few (len := len) (sz := f.map (fun (n : Nat) => (n : Int)) ++ [-1]) f [-1] 0 0 hf (by simp) (by omega)
  rw [Nat.zero_add] at hr
  refine hr _ _ (Rot.reads_minus ha ?_)
  rw [List.getElem?_append_right (by simp)]
  simp
/-- LOAD, of a file, where it is known how the reads end. -/
theorem load_reads_yes (b : Nat) (S : ByteArray) (vs : Value) (sz : List Int) (t : List UInt8) (r k0 : Nat) (w : World) (h : Src w b S vs sz 0) (hlow : ∀ a n c, vs = .slice (some a) n c → a.block < w.heap.size) (hf : Rot.IsFile S.data.toList t r) (hr : Rot.Reads S.size sz 0 0 0 true k0) :
    Calls Tryz.prog 15 #[.pointer (some ⟨b, 0, none⟩)] w fun e w' => ∃ p, e = .returned (.tuple #[.pointer (some ⟨p, 0, none⟩), .int .i64 0]) ∧ Src w' b S vs sz k0 ∧ w.grownBy w' (some b) := by
  have hs : S.size ≤ 4000 := by
    have := hf.size.2.2
    have e : S.data.toList.length = S.size := by simp
    omega
  refine (load_is b S vs sz w h hs hlow).mono ?_
  rintro e w' ⟨k, h1, h2, (⟨h3, h4⟩ | ⟨h3, h4, h5⟩ | ⟨p, t', r', h3, h4, h5⟩)⟩
  · have := (hr.same h4).1
    cases this
  · exact absurd ⟨t, r, hf⟩ h5
  · obtain ⟨_, rfl⟩ := hr.same h4
    exact ⟨p, h3, h1, h2⟩
theorem load_reads_no (b : Nat) (S : ByteArray) (vs : Value) (sz : List Int) (k0 : Nat) (w : World) (h : Src w b S vs sz 0) (hs : S.size ≤ 4000) (hlow : ∀ a n c, vs = .slice (some a) n c → a.block < w.heap.size) (hr : Rot.Reads S.size sz 0 0 0 false k0) :
    Calls Tryz.prog 15 #[.pointer (some ⟨b, 0, none⟩)] w fun e w' => e = .returned (.tuple #[.pointer none, .int .i64 3]) ∧ Src w' b S vs sz k0 ∧ w.grownBy w' (some b) := by
  refine (load_is b S vs sz w h hs hlow).mono ?_
  rintro e w' ⟨k, h1, h2, (⟨h3, h4⟩ | ⟨h3, h4, h5⟩ | ⟨p, t', r', h3, h4, h5⟩)⟩
  · obtain ⟨_, rfl⟩ := hr.same h4
    exact ⟨h3, h1, h2⟩
  · have := (hr.same h4).1
    cases this
  · have := (hr.same h4).1
    cases this
end Go.Proofs.YthlincikgdblfaaGreat

namespace Go.Proofs.YthlincikgdblfaaGreat
set_option linter.unusedVariables false
open Go.RowKit

/-- A list of whole numbers of the call's own. -/
def IsZ (w : World) (B : Nat) (v : Value) (l : List Int) : Prop := w.ownsRow B 3 1 v l.length (l.map (Value.int .i64))
theorem IsZ.of {w : World} {B : Nat} {v : Value} {l : List Nat} (h : Is w B v l) : IsZ w B v (l.map fun (n : Nat) => (n : Int)) := by
  unfold IsZ
  rw [List.length_map, List.map_map]
  exact h
theorem IsZ.nil (w : World) (B : Nat) : IsZ w B (.slice none 0 0) [] := World.ownsRow_nil _ _ _ _
theorem IsZ.form {w : World} {B : Nat} {v : Value} {l : List Int} (h : IsZ w B v l) : (v = .slice none 0 0 ∧ l = []) ∨ ∃ g cap, v = .slice (some ⟨g, 0, none⟩) l.length cap ∧ B ≤ g ∧ g < w.heap.size ∧ l.length ≤ cap := by
  rcases h.2 with ⟨hv, hn⟩ | ⟨g, cap, cur, hv, hb, hg, hc, _⟩
  · exact Or.inl ⟨hv, List.eq_nil_of_length_eq_zero hn⟩
  · exact Or.inr ⟨g, cap, hv, hb, (Array.getElem?_eq_some_iff.1 hg).1, hc⟩
theorem IsZ.cell {w : World} {B : Nat} {l : List Int} {g n cap : Nat} (h : IsZ w B (.slice (some ⟨g, 0, none⟩) n cap) l) (j : Nat) (hj : j < l.length) : w.cell? ⟨g, j, none⟩ = some (.int .i64 (l[j]'hj)) := by
  have := World.ownsRow.cells h (g := g) rfl j (.int .i64 (l[j]'hj)) (by simp [hj])
  rw [addr_add] at this
  exact this
theorem IsZ.ints {w : World} {B : Nat} {v : Value} {l : List Int} (h : IsZ w B v l) (hb : ∀ z ∈ l, -9223372036854775808 ≤ z ∧ z ≤ 9223372036854775807) (hl : l.length ≤ 9223372036854775807) : Ints w v l := by
  refine ⟨hb, hl, ?_⟩
  rcases h.form with ⟨rfl, rfl⟩ | ⟨g, cap, rfl, _, _, _⟩
  · exact ⟨none, 0, rfl, Or.inl rfl⟩
  · exact ⟨some ⟨g, 0, none⟩, cap, rfl, Or.inr ⟨g, 0, rfl, fun i hi => by rw [Nat.zero_add]; exact IsZ.cell h i hi⟩⟩
theorem IsZ.below {w w' : World} {B b : Nat} {v : Value} {l : List Int} (h : IsZ w B v l) (H : Below b w w') (hb : ∀ g n c, v = .slice (some ⟨g, 0, none⟩) n c → g < b) : IsZ w' B v l := by
  obtain ⟨h1, h2⟩ := h
  refine ⟨h1, ?_⟩
  rcases h2 with h2 | ⟨g, cap, cur, hv, hB, hg, hr⟩
  · exact Or.inl h2
  · exact Or.inr ⟨g, cap, cur, hv, hB, by rw [H.block g (hb _ _ _ hv)]; exact hg, hr⟩
theorem IsZ.shape {w : World} {B : Nat} {v : Value} {l : List Int} (h : IsZ w B v l) : ∃ a n c, v = .slice a n c ∧ n = l.length := by
  rcases h.form with ⟨rfl, rfl⟩ | ⟨g, cap, rfl, _⟩
  · exact ⟨_, _, _, rfl, rfl⟩
  · exact ⟨_, _, _, rfl, rfl⟩
theorem intZ_one (l : List Int) : ∀ u ∈ l.map (Value.int .i64), u.oneCell' = true := by
  intro u hu
  obtain ⟨z, _, rfl⟩ := List.mem_map.1 hu
  rfl
/-- APPEND OF WHOLE NUMBERS that lie at an address. -/
theorem wp_appZ (w : World) {ops : Array Oper} {rest : List Oper} {o : Oper} {a : Act} {Q : Exit → Act → World → Prop} (hgd : o.guard = none) (s x : Operand)
    (ho : o.op = .call { callee := .builtin .append, args := #[s, x], argTypes := #[25, 25] })
    (B : Nat) (v : Value) (l : List Int) (hs : a.eval s = v) (hown : IsZ w B v l) (ad : Addr) (c n : Nat) (m : List Int) (hn : m.length = n) (hx : a.eval x = .slice (some ad) n c) (hm : ∀ j u, (m.map (Value.int .i64))[j]? = some u → w.cell? (ad.add j) = some u)
    (hl : (l.length + m.length) * 8 ≤ 140737488355328) (hB : B ≤ w.heap.size)
    (h : ∀ v' w', IsZ w' B v' (l ++ m) → w.grownBy w' v.ownBlock → wpList Tryz.prog ops Q rest (a.put o.dst v') w') : wpList Tryz.prog ops Q (o :: rest) a w := by
  subst hn
  obtain ⟨i0, hi, hz0, hz1, hz2⟩ := info_parts infoI
  refine wpList_append_own_at w hgd s x 25 ho B 3 i0 (.int .i64 0) 1 8 Tryz.underlying25 hi hz0 hz1 hz2 rfl (by decide) v l.length (l.map (Value.int .i64)) hs hown ad m.length c (m.map (Value.int .i64)) hx (by rw [List.length_map]; omega) hm (intZ_one m) (by unfold maxLen; omega) hl hB ?_
  intro v' w' h1 h2 h3 h4
  refine h v' w' ?_ h2
  unfold IsZ; rw [List.map_append, List.length_append]; exact h1
/-- APPEND OF A LIST, nil or not. -/
theorem wp_appZX (w : World) {ops : Array Oper} {rest : List Oper} {o : Oper} {a : Act} {Q : Exit → Act → World → Prop} (hgd : o.guard = none) (s x : Operand)
    (ho : o.op = .call { callee := .builtin .append, args := #[s, x], argTypes := #[25, 25] })
    (B : Nat) (v : Value) (l : List Int) (hs : a.eval s = v) (hown : IsZ w B v l) (B2 : Nat) (xv : Value) (m : List Int) (hx : a.eval x = xv) (hm : IsZ w B2 xv m)
    (hl : (l.length + m.length) * 8 ≤ 140737488355328) (hB : B ≤ w.heap.size)
    (h : ∀ v' w', IsZ w' B v' (l ++ m) → w.grownBy w' v.ownBlock → wpList Tryz.prog ops Q rest (a.put o.dst v') w') : wpList Tryz.prog ops Q (o :: rest) a w := by
  rcases hm.form with ⟨rfl, rfl⟩ | ⟨g, cap, rfl, _, _, _⟩
  · obtain ⟨i0, hi, hz0, hz1, hz2⟩ := info_parts infoI
    refine wpList_append_own_none hgd s x 25 ho B 3 i0 1 Tryz.underlying25 hi v l.length (l.map (Value.int .i64)) hs hown hx ?_
    refine h v w ?_ (World.grownBy.refl _ _)
    rw [List.append_nil]
    exact hown
  · refine wp_appZ w hgd s x ho B v l hs hown ⟨g, 0, none⟩ cap m.length m rfl hx ?_ hl hB h
    intro j u hu
    have hj : j < m.length := by
      have := (List.getElem?_eq_some_iff.1 hu).1
      simpa using this
    rw [addr_add, IsZ.cell hm j hj]
    rw [← hu]
    simp [hj]
/-- A source whose sizes are still written. -/
structure Sr (w : World) (b : Nat) (S : ByteArray) (v : Value) (l : List Int) : Prop where
  c0 : w.cell? ⟨b, 0, none⟩ = some (.string S)
  c1 : w.cell? ⟨b, 1, none⟩ = some v
  c2 : w.cell? ⟨b, 2, none⟩ = some (.int .i64 0)
  f1 : w.frozen? ⟨b, 1, none⟩ = false
  f2 : w.frozen? ⟨b, 2, none⟩ = false
  own : IsZ w (b + 1) v l
theorem Sr.new (w : World) (S : ByteArray) : Sr (w.alloc (.cells #[.string S, .slice none 0 0, .int .i64 0] 37)) w.heap.size S (.slice none 0 0) [] := by
  refine ⟨?_, ?_, ?_, ?_, ?_, IsZ.nil _ _⟩
  all_goals go_simp
theorem Sr.lt {w : World} {b : Nat} {S : ByteArray} {v : Value} {l : List Int} (h : Sr w b S v l) : b < w.heap.size := World.block_lt_of_cell? w ⟨b, 0, none⟩ h.c0
theorem Sr.block {w : World} {b : Nat} {S : ByteArray} {v : Value} {l : List Int} (h : Sr w b S v l) : ∀ k, v.ownBlock = some k → b + 1 ≤ k := fun k e => (World.ownsRow.lt h.own k e).1
/-- Behind an append. -/
theorem Sr.grown {w w' : World} {b : Nat} {S : ByteArray} {v : Value} {l : List Int} (h : Sr w b S v l) (G : w.grownBy w' v.ownBlock) : w'.cell? ⟨b, 0, none⟩ = some (.string S) ∧ w'.cell? ⟨b, 1, none⟩ = some v ∧ w'.cell? ⟨b, 2, none⟩ = some (.int .i64 0) ∧ w'.frozen? ⟨b, 1, none⟩ = false ∧ w'.frozen? ⟨b, 2, none⟩ = false ∧ Below b w w' := by
  have hne : v.ownBlock ≠ some b := fun e => by have := h.block b e; omega
  have hlt := h.lt
  exact ⟨(grown_cell G hlt hne 0).trans h.c0, (grown_cell G hlt hne 1).trans h.c1, (grown_cell G hlt hne 2).trans h.c2, (grown_frozen G hlt hne 1).trans h.f1, (grown_frozen G hlt hne 2).trans h.f2, below_grown G (Nat.le_of_lt hlt) (fun k e => by have := h.block k e; omega)⟩
theorem Sr.app {w w' : World} {b : Nat} {S : ByteArray} {v v' : Value} {l m : List Int} (h : Sr w b S v l) (G : w.grownBy w' v.ownBlock) (hI : IsZ w' (b + 1) v' m) : Sr (w'.setCell ⟨b, 1, none⟩ v') b S v' m ∧ Below b w (w'.setCell ⟨b, 1, none⟩ v') := by
  obtain ⟨g0, g1, g2, g3, g4, g5⟩ := h.grown G
  have ne : ∀ i, i ≠ 1 → (⟨b, 1, none⟩ : Addr) ≠ ⟨b, i, none⟩ := fun i hi e => hi (by injection e with _ e2; exact e2.symm)
  refine ⟨⟨?_, World.cell?_setCell_same _ _ _ g1, ?_, ?_, ?_, ?_⟩, g5.trans (below_setCell w' b b 1 v' (Nat.le_refl _))⟩
  · exact (World.cell?_setCell_other _ _ _ _ (ne 0 (by decide))).trans g0
  · exact (World.cell?_setCell_other _ _ _ _ (ne 2 (by decide))).trans g2
  · exact (World.frozen?_setCell _ _ _ _).trans g3
  · exact (World.frozen?_setCell _ _ _ _).trans g4
  · exact ownsRow_setCell_below hI (by simp) _
theorem Sr.src {w : World} {b : Nat} {S : ByteArray} {v : Value} {l : List Int} (h : Sr w b S v l) (hb : ∀ z ∈ l, -9223372036854775808 ≤ z ∧ z ≤ 9223372036854775807) (hl : l.length ≤ 9223372036854775807) : Src w b S v l 0 ∧ ∀ a n c, v = .slice (some a) n c → a.block < w.heap.size := by
  have hf := h.own.form
  refine ⟨⟨h.c0, h.c1, h.c2, h.f2, ?_, h.own.ints hb hl⟩, ?_⟩
  · intro a n c e
    rcases hf with ⟨rfl, _⟩ | ⟨g, cap, rfl, h1, _, _⟩
    · cases e
    · cases e
      show g ≠ b
      omega
  · intro a n c e
    rcases hf with ⟨rfl, _⟩ | ⟨g, cap, rfl, _, h2, _⟩
    · cases e
    · cases e
      exact h2
theorem Sr.alloc {w : World} {b : Nat} {S : ByteArray} {v : Value} {l : List Int} (h : Sr w b S v l) (o : Obj) : Sr (w.alloc o) b S v l := by
  have G : w.grownBy (w.alloc o) none := World.grownBy_alloc w o none
  have hlt := h.lt
  exact ⟨(grown_cell G hlt (by simp) 0).trans h.c0, (grown_cell G hlt (by simp) 1).trans h.c1, (grown_cell G hlt (by simp) 2).trans h.c2, (grown_frozen G hlt (by simp) 1).trans h.f1, (grown_frozen G hlt (by simp) 2).trans h.f2, World.ownsRow.alloc h.own o⟩
theorem Below.src {b : Nat} {w w' : World} {B : Nat} (h : Below b w w') (hB : B ≤ b) : Below B w w' := h.mono hB
theorem zeros_conv (w : World) (B g n : Nat) (h : w.ownsRow B 5 1 (.slice (some ⟨g, 0, none⟩) n n) n (List.replicate n (.int .u8 0))) : (convert 45 9 (.slice (some ⟨g, 0, none⟩) n n)).run Tryz.prog w = .ok (.string (Sb (List.replicate n 0))) w := by
  have e : by8 (List.replicate n 0) = List.replicate n (.int .u8 0) := by simp [by8]
  have hl : (List.replicate n (0 : UInt8)).length = n := List.length_replicate
  have hB : Bs w B (.slice (some ⟨g, 0, none⟩) (List.replicate n (0 : UInt8)).length n) (List.replicate n 0) := by
    unfold Bs
    rw [hl, e]
    exact h
  have := conv_str hB
  rw [hl] at this
  exact this
end Go.Proofs.YthlincikgdblfaaGreat

namespace Go.Proofs.YthlincikgdblfaaGreat
set_option linter.unusedVariables false
open Go.RowKit

def ZerV (w : World) (n : Nat) (l i : Value) (wr : World) : Prop := ∃ k : Nat, k ≤ n ∧ i = .int .i64 (k : Int) ∧ Is wr w.heap.size l (List.replicate k 0) ∧ w.grownBy wr none
theorem ZerV.mk {w : World} {n : Nat} {l i : Value} {wr : World} (k : Nat) (h1 : k ≤ n) (h2 : i = .int .i64 (k : Int)) (h3 : Is wr w.heap.size l (List.replicate k 0)) (h4 : w.grownBy wr none) : ZerV w n l i wr := ⟨k, h1, h2, h3, h4⟩
theorem rep_snoc (k : Nat) : List.replicate (k + 1) 0 = List.replicate k 0 ++ [0] := by rw [List.replicate_succ']
theorem is_shape2 {w : World} {B : Nat} {v : Value} {l : List Nat} (h : Is w B v l) : ∃ a n c, v = .slice a n c ∧ n = l.length ∧ (n = 0 ∨ ∃ g, a = some ⟨g, 0, none⟩ ∧ n ≤ c) := by
  rcases h.form with ⟨rfl, rfl⟩ | ⟨g, cap, rfl, _, _, hc⟩
  · exact ⟨_, _, _, rfl, rfl, Or.inl rfl⟩
  · exact ⟨_, _, _, rfl, rfl, Or.inr ⟨g, rfl, hc⟩⟩
/-- What stays of the sizes ahead. -/
structure Few (w : World) (B : Nat) (fv : Value) (f : List Nat) : Prop where
  own : Is w B fv f
  len : f.length ≤ 8
  low : ∀ x ∈ f, x ≤ 1000
  pos : ∀ x ∈ f, 1 ≤ x
set_option maxRecDepth 100000 in
set_option maxHeartbeats 4000000 in
theorem failed_walk (a0 : ByteArray) (a1 : Int) (v2 : Value) (zs : List Int) (a3 a4 : Int) (h0 : a0.size ≤ maxLen) (h1 : -9223372036854775808 ≤ a1 ∧ a1 ≤ 9223372036854775807) (h3 : -9223372036854775808 ≤ a3 ∧ a3 ≤ 9223372036854775807) (h4 : -9223372036854775808 ≤ a4 ∧ a4 ≤ 9223372036854775807) (w : World) (hI : Ints w v2 zs) (hlow : ∀ a n c, v2 = .slice (some a) n c → a.block < w.heap.size ∨ zs = []) (hz : zs.length * 8 ≤ 140737488355328) :
    Calls Tryz.prog 8 #[.string a0, .int .i64 a1, v2, .int .i64 a3, .int .i64 a4] w fun e w' => e = .returned (.bool true) ∧ Below w.heap.size w w' := by
  have hcs := cut_size a0
  have hr := isRate_rateOf a1
  have K0 := hide (fun W => cut_any a0 W h0)
  have K1 := hide (fun W => krate_any a1 W h1.1 h1.2)
  have K2 := hide (fun W => built_any (cutOf a0) (rateOf a1) W hcs hr)
  have HI := hide hI
  have HL := hide hlow
  generalize cutOf a0 = t at *
  generalize rateOf a1 = r at *
  have hn := pick_lt a3 12 (by decide)
  have KN := hide (fun W => kpick_any a3 12 W h3.1 h3.2 (by decide) (by decide))
  generalize pickOf a3 12 = n at hn KN
  have hg := pick_lt a4 1000 (by decide)
  have KG := hide (fun W => kpick_any a4 1000 W h4.1 h4.2 (by decide) (by decide))
  generalize pickOf a4 1000 = g at hg KG
  have HR := hide hr
  clear hI hlow hr h0 h1 h3 h4
  go_enter Tryz.func8, Tryz.ntmps8
  go_wp2_with fail
  refine (unhide K0 _).mono ?_
  rintro e w1 ⟨rfl, hw⟩
  replace hw := hw.symm
  subst hw
  go_wp2_with fail
  refine (unhide K1 _).mono ?_
  rintro e w1 ⟨rfl, hw⟩
  replace hw := hw.symm
  subst hw
  go_wp2_with fail
  refine (unhide K2 _).mono ?_
  rintro e w1 ⟨rows, hR, rfl, hB⟩
  have hf := built_file hcs (unhide HR) hR
  generalize (⟨(Rot.fileOf t.data.toList rows r).toArray⟩ : ByteArray) = S at hf ⊢
  have hS1 : 577 ≤ S.size ∧ S.size ≤ 2000 := by
    have := hf.size.2
    have e : S.data.toList.length = S.size := by simp
    omega
  have hslow := slow_any v2 zs w1 ((unhide HI).below hB (unhide HL)) hz
  have HF := hide hf
  have HB := hide hB
  clear hR hf hB HI K0 K1 K2
  go_wp2_with fail
  refine hslow.mono ?_
  rintro e w2 ⟨v', rfl, hIs, hG2⟩
  have hsl : (slowOf zs).length = zs.length := slow_len zs
  have HB2 := hide (below_on (unhide HB) hG2 (Nat.le_refl _))
  clear hslow hG2 HB
  -- the first eight of them
  obtain ⟨x', n', c', rfl, hn', hx'⟩ := is_shape2 hIs
  have HIs := hide hIs
  have HN' := hide hn'
  have hnb : n' ≤ 17592186044416 := by rw [hn', hsl]; omega
  clear hIs hn'
  go_upto_if 42 with fail
  go_cut [14] (fun fv wx => wx = w2 ∧ ∃ f, Few w2 w1.heap.size fv f)
  case first =>
    by_cases h8 : 8 < n'
    · have hd : decide ((8 : Int) < (n' : Int)) = true := by simp; omega
      rcases hx' with h0 | ⟨gg, rfl, hcc⟩
      · omega
      have hc8 : 8 ≤ c' := by omega
      go_wp2_with fail
      go_meet
      refine ⟨rfl, (slowOf zs).take 8, ?_, by rw [List.length_take]; omega, (few_is zs 8).1, (few_is zs 8).2⟩
      have h1 := unhide HIs
      rw [unhide HN'] at h1
      exact Is.take h1 8 (by have := unhide HN'; omega)
    · have hd : decide ((8 : Int) < (n' : Int)) = false := by simp; omega
      go_wp2_with fail
      go_meet
      refine ⟨rfl, slowOf zs, unhide HIs, by have := unhide HN'; omega, slow_bound zs, ?_⟩
      have := (few_is zs (slowOf zs).length).2
      rwa [List.take_length] at this
  case rest =>
  obtain ⟨hwc, f, hfew⟩ := hcut
  subst hwc
  have HFew := hide hfew
  clear HIs HN' hx' hsl hfew
  go_wp2_with fail
  refine (unhide KN _).mono ?_
  rintro e w9 ⟨rfl, hw⟩
  replace hw := hw.symm
  subst hw
  have hfo := is_shape2 (unhide HFew).own
  obtain ⟨fx, fn, fc, rfl, hfn, _⟩ := hfo
  have HFn := hide hfn
  have hfn8 : fn ≤ 8 := by have := (unhide HFew).len; omega
  clear hfn
  go_wp2_with fail
  go_loopw [16, 17] (fun l i wr => ZerV wc n l i wr) (fun _ i _ => n - (intOf i).toNat)
  case atStart => exact ZerV.mk 0 (Nat.zero_le _) rfl (Is.nil _ _) (World.grownBy.refl _ _)
  case round =>
    obtain ⟨k, hk, rfl, L, G⟩ := hrel
    have hzz := G.size
    by_cases hlt : k < n
    · have hll : (List.replicate k 0).length = k := List.length_replicate
      go_wp2_with (at_builtin; refine wp_appL _ rfl (.tmp 52) (.tmp 53) rfl wc.heap.size _ _ rfl (World.ownsRow.alloc L _) ⟨wr.heap.size, 0, none⟩ 1 1 [0] rfl rfl (cell_one_new _ _ _) ?a2 ?a3 ?_)
      case a2 => simp only [List.length_singleton, hll]; omega
      case a3 => simp; omega
      intro v1 w2 L1 g1
      have HL : Hid (Is w2 wc.heap.size v1 (List.replicate (k + 1) 0)) := by rw [rep_snoc]; exact L1
      have HG := hide (grown_trans (grown_alloc G _) g1 (by
        cases e : u16.ownBlock with
        | none => exact Or.inl rfl
        | some j => exact Or.inr ⟨j, rfl, (World.ownsRow.lt L j e).1⟩))
      clear L1 g1 L G
      go_wp2_with fail
      go_roundw
      case rel =>
        first | exact ZerV.mk (k + 1) (by omega) (by go_num) (unhide HL) (unhide HG) | (repeat apply Exists.intro; refine ⟨?_, rfl⟩; exact ZerV.mk (k + 1) (by omega) (by go_num) (unhide HL) (unhide HG))
      case measure => first | (simp [intOf]; done) | (simp [intOf]; omega)
    · have ek : k = n := by omega
      subst ek
      -- the first source
      have hnlt := is_low L
      have HX0 := hide (Sr.new wr S)
      have x1 := (unhide HX0).c1
      have hflt := is_low (ownsRow_kept0 (unhide HFew).own G : Is wr w1.heap.size (.slice fx fn fc) f)
      have HNz := hide (IsZ.of (World.ownsRow.alloc L (.cells #[.string S, .slice none 0 0, .int .i64 0] 37)))
      have HFz := hide (IsZ.of (World.ownsRow.alloc (ownsRow_kept0 (unhide HFew).own G) (.cells #[.string S, .slice none 0 0, .int .i64 0] 37)))
      have hfl : (f.map fun (n : Nat) => (n : Int)).length = fn := by rw [List.length_map]; exact (unhide HFn).symm
      have hkl : ((List.replicate k 0).map fun (n : Nat) => (n : Int)).length = k := by simp
      have HB3 : Hid (Below w.heap.size w (wr.alloc (.cells #[.string S, .slice none 0 0, .int .i64 0] 37))) := (below_on (unhide HB2) G (Nat.le_refl _)).alloc (Nat.le_trans (unhide HB2).size G.size) _
      have hle : w.heap.size ≤ wr.heap.size := Nat.le_trans (unhide HB2).size G.size
      have HFp := hide (unhide HFew).pos
      have HFb := hide (unhide HFew).low
      have HFl := hide (unhide HFew).len
      clear L G HB2 HFew
      generalize hfz : (f.map fun (n : Nat) => (n : Int)) = fz at HFz hfl
      generalize hnz : ((List.replicate k 0).map fun (n : Nat) => (n : Int)) = nz at HNz hkl
      have HFZ := hide hfz
      have HNZ := hide hnz
      clear hfz hnz
      go_wp2_with (at_builtin; refine wp_appZX _ rfl (.tmp 62) (.tmp 63) rfl (wr.heap.size + 1) _ [] rfl (unhide HX0).own w1.heap.size _ fz rfl (unhide HFz) ?a2 ?a3 ?_)
      case a2 => simp only [List.length_nil, hfl]; omega
      case a3 => simp
      intro v3 w3 I3 g3
      have g3' : (wr.alloc (.cells #[.string S, .slice none 0 0, .int .i64 0] 37)).grownBy w3 (Value.slice none 0 0).ownBlock := g3
      obtain ⟨_, y1, _, z1, _, _⟩ := (unhide HX0).grown g3'
      obtain ⟨X1, B1⟩ := (unhide HX0).app g3' I3
      obtain ⟨x3, n3, c3, rfl, hn3⟩ := I3.shape
      clear hn3
      have HX1 := hide X1
      have y2 := X1.c1
      have HB4 := hide ((unhide HB3).trans (B1.mono hle))
      have HNz1 := hide ((unhide HNz).below B1 (fun g n c e => hnlt ⟨g, 0, none⟩ n c e))
      have HFz1 := hide ((unhide HFz).below B1 (fun g n c e => hflt ⟨g, 0, none⟩ n c e))
      clear I3 g3 g3' X1 B1 HX0 HB3 HNz HFz x1
      go_wp2_with (at_builtin; refine wp_appZX _ rfl (.tmp 71) (.tmp 72) rfl (wr.heap.size + 1) _ fz rfl (unhide HX1).own wc.heap.size _ nz rfl (unhide HNz1) ?a4 ?a5 ?_)
      case a4 => rw [hfl, hkl]; omega
      case a5 => exact (unhide HX1).lt
      intro v5 w5 I5 g5
      obtain ⟨_, y3, _, z3, _, _⟩ := (unhide HX1).grown g5
      obtain ⟨X2, B2⟩ := (unhide HX1).app g5 I5
      obtain ⟨x5, n5, c5, rfl, hn5⟩ := I5.shape
      clear hn5
      have HB5 := hide ((unhide HB4).trans (B2.mono hle))
      have hlt5 := X2.lt
      have HFz2 := hide ((unhide HFz1).below B2 (fun g n c e => hflt ⟨g, 0, none⟩ n c e))
      have hbz : ∀ z ∈ fz ++ nz, -9223372036854775808 ≤ z ∧ z ≤ 9223372036854775807 := by
        intro z hz
        rcases List.mem_append.1 hz with hz | hz
        · rw [← unhide HFZ] at hz
          obtain ⟨y, hy, rfl⟩ := List.mem_map.1 hz
          have := unhide HFb y hy
          omega
        · rw [← unhide HNZ] at hz
          obtain ⟨y, hy, rfl⟩ := List.mem_map.1 hz
          have := List.eq_of_mem_replicate hy
          omega
      obtain ⟨hsrc, hlw⟩ := X2.src hbz (by rw [List.length_append, hfl, hkl]; omega)
      have hrd := failed_few f k (unhide HFp) (unhide HFl) hS1.1
      have ez : (f ++ List.replicate k 0).map (fun (n : Nat) => (n : Int)) = fz ++ nz := by rw [List.map_append, unhide HFZ, unhide HNZ]
      rw [ez] at hrd
      have HSRC := hide hsrc
      have HLW := hide hlw
      have HRD := hide hrd
      clear I5 g5 X2 B2 HX1 HB4 HNz1 HFz1 y1 z1 y2 ez hsrc hlw hrd hbz
      by_cases h8 : k < 8
      case' pos =>
        have d1 : decide ((k : Int) < 8) = true := by simp; omega
        have d2 : decide ((8 : Int) ≤ (k : Int)) = false := by simp; omega
        obtain ⟨k0, hr0⟩ := (unhide HRD).1 h8
        have hld := load_reads_yes _ _ _ _ _ _ _ _ (unhide HSRC) (unhide HLW) (unhide HF) hr0
        clear HSRC HLW HRD hr0
        go_wp2_with fail
        refine hld.mono ?_
        rintro e w6 ⟨p, rfl, _, hG6⟩
        have HB6 := hide ((unhide HB5).grown hG6 (unhide HB5).size (fun k e => by injection e; omega))
        have HFz3 := hide ((unhide HFz2).below (below_grown (B := wr.heap.size) hG6 (Nat.le_of_lt hlt5) (fun k e => by injection e with e; omega)) (fun g n c e => hflt ⟨g, 0, none⟩ n c e))
        have hle6 : wr.heap.size ≤ w6.heap.size := by have := hG6.size; omega
        clear hld hG6 HB5 HFz2 h8 hlt5
        go_upto_region 22 with fail
      case' neg =>
        have d1 : decide ((k : Int) < 8) = false := by simp; omega
        have d2 : decide ((8 : Int) ≤ (k : Int)) = true := by simp; omega
        have hr0 := (unhide HRD).2 (by omega)
        have hld := load_reads_no _ _ _ _ _ _ (unhide HSRC) (by omega) (unhide HLW) hr0
        clear HSRC HLW HRD hr0
        go_wp2_with fail
        refine hld.mono ?_
        rintro e w6 ⟨rfl, hS6, hG6⟩
        have q2 := hS6.c2
        have hq : ((f.length + 8 : Nat) : Int) = (fn : Int) + 8 := by have := unhide HFn; omega
        rw [hq] at q2
        have HB6 := hide ((unhide HB5).grown hG6 (unhide HB5).size (fun k e => by injection e; omega))
        have HFz3 := hide ((unhide HFz2).below (below_grown (B := wr.heap.size) hG6 (Nat.le_of_lt hlt5) (fun k e => by injection e with e; omega)) (fun g n c e => hflt ⟨g, 0, none⟩ n c e))
        have hle6 : wr.heap.size ≤ w6.heap.size := by have := hG6.size; omega
        clear hld hG6 HB5 HFz2 hS6 hq h8 hlt5
        go_upto_region 22 with fail
      all_goals
        -- the second source
        have HX0 := hide (Sr.new w6 S)
        have x1 := (unhide HX0).c1
        have HFz4 := hide (IsZ.below (unhide HFz3) (Below.of_grown (World.grownBy_alloc w6 (.cells #[.string S, .slice none 0 0, .int .i64 0] 37) none)) (fun g n c e => Nat.lt_of_lt_of_le (hflt ⟨g, 0, none⟩ n c e) hle6))
        have HB7 : Hid (Below w.heap.size w (w6.alloc (.cells #[.string S, .slice none 0 0, .int .i64 0] 37))) := (unhide HB6).alloc (unhide HB6).size _
        have hle7 : w.heap.size ≤ w6.heap.size := (unhide HB6).size
        clear HB6 HFz3
        go_wp2_with (at_builtin; refine wp_appZX _ rfl (.tmp 118) (.tmp 119) rfl (w6.heap.size + 1) _ [] rfl (unhide HX0).own w1.heap.size _ fz rfl (unhide HFz4) ?b2 ?b3 ?_)
        case b2 => simp only [List.length_nil, hfl]; omega
        case b3 => simp
        intro v7 w7 I7 g7
        have g7' : (w6.alloc (.cells #[.string S, .slice none 0 0, .int .i64 0] 37)).grownBy w7 (Value.slice none 0 0).ownBlock := g7
        obtain ⟨_, y1, _, z1, _, _⟩ := (unhide HX0).grown g7'
        obtain ⟨X1, B1⟩ := (unhide HX0).app g7' I7
        obtain ⟨x7, n7, c7, rfl, hn7⟩ := I7.shape
        clear hn7
        have HX1 := hide X1
        have y2 := X1.c1
        have HX1a := hide (X1.alloc (.cells #[.int .i64 (-1)] 3))
        have HB8 := hide ((unhide HB7).trans (B1.mono hle7))
        have hl8 := X1.lt
        have hsz8 : (w7.setCell ⟨w6.heap.size, 1, none⟩ (.slice x7 n7 c7)).heap.size = w7.heap.size := by simp
        have HCN := hide (cell_one_new (w7.setCell ⟨w6.heap.size, 1, none⟩ (.slice x7 n7 c7)) (.int .i64 (-1)) 3)
        rw [hsz8] at HCN hl8
        clear hsz8
        clear I7 g7 g7' X1 B1 HX0 HB7 HFz4 x1
        go_wp2_with (at_builtin; refine wp_appZ _ rfl (.tmp 127) (.tmp 128) rfl (w6.heap.size + 1) _ fz rfl (unhide HX1a).own ⟨w7.heap.size, 0, none⟩ 1 1 [-1] rfl rfl (unhide HCN) ?b4 ?b5 ?_)
        case b4 => rw [hfl]; simp; omega
        case b5 => exact (unhide HX1a).lt
        intro v9 w9 I9 g9
        obtain ⟨_, y3, _, z3, _, _⟩ := (unhide HX1a).grown g9
        obtain ⟨X2, B2⟩ := (unhide HX1a).app g9 I9
        obtain ⟨x9, n9, c9, rfl, hn9⟩ := I9.shape
        clear hn9
        have HB9 := hide ((Below.alloc (unhide HB8) (unhide HB8).size (.cells #[.int .i64 (-1)] 3)).trans (B2.mono hle7))
        have hbz : ∀ z ∈ fz ++ [-1], -9223372036854775808 ≤ z ∧ z ≤ 9223372036854775807 := by
          intro z hz
          rcases List.mem_append.1 hz with hz | hz
          · rw [← unhide HFZ] at hz
            obtain ⟨y, hy, rfl⟩ := List.mem_map.1 hz
            have := unhide HFb y hy
            omega
          · simp at hz
            omega
        obtain ⟨hsrc, hlw⟩ := X2.src hbz (by rw [List.length_append, hfl]; simp; omega)
        have hrd := failed_minus f (unhide HFp) (unhide HFl) hS1.1
        rw [unhide HFZ] at hrd
        have hld := load_reads_no _ _ _ _ _ _ hsrc (by omega) hlw hrd
        have hlt9 := X2.lt
        clear I9 g9 X2 B2 HX1 HX1a HB8 y1 z1 y2 hsrc hlw hrd hbz
        go_wp2_with fail
        refine hld.mono ?_
        rintro e wa ⟨rfl, hSa, hGa⟩
        have q3 := hSa.c2
        have hq : ((f.length + 1 : Nat) : Int) = (fn : Int) + 1 := by have := unhide HFn; omega
        rw [hq] at q3
        have HBa := hide ((unhide HB9).grown hGa (unhide HB9).size (fun k e => by injection e; omega))
        clear hld hGa HB9 hSa hq y3 z3
        go_upto_region 28 with fail
        obtain ⟨i0, hi, hz0, hz1, hz2⟩ := info_parts info8
        obtain ⟨N, hN⟩ : ∃ N : Nat, N = 4001 + g := ⟨_, rfl⟩
        have eN : (4001 : Int) + (g : Int) = (N : Int) := by omega
        have hN1 : 4000 < N := by omega
        have hN2 : N ≤ 5001 := by omega
        clear hN
        go_wp2_with fail
        refine (unhide KG _).mono ?_
        rintro e wb ⟨rfl, hw⟩
        replace hw := hw.symm
        subst hw
        go_wp2_with (at_make; refine wpList_make_full _ rfl _ _ 45 rfl wa.heap.size 5 i0 (.int .u8 0) 1 Tryz.underlying45 hi hz0 hz1 .i64 .i64 _ _ N rfl rfl ?l1 ?l2 ?m1 ?m2 ?m3 ?_)
        case l1 => omega
        case l2 => omega
        case m1 => rw [hz2]; omega
        case m2 => unfold maxLen; omega
        case m3 => exact Nat.le_refl _
        intro wd Od Gd
        have hcv := zeros_conv wd wa.heap.size wa.heap.size N (by rw [toList_madeCells_one] at Od; simpa using Od)
        have hZ : (Sb (List.replicate N 0)).size = N := by rw [Sb_size, List.length_replicate]
        generalize Sb (List.replicate N 0) = Z at hcv hZ
        have hints : Ints (wd.alloc (.cells #[.int .i64 (-1)] 3)) (.slice (some ⟨wd.heap.size, 0, none⟩) 1 1) [-1] := by
          refine ⟨by simp, by simp, some ⟨wd.heap.size, 0, none⟩, 1, rfl, Or.inr ⟨wd.heap.size, 0, rfl, fun i hi => ?_⟩⟩
          have hi0 : i = 0 := by simpa using hi
          subst hi0
          go_simp
        have hsrc := src_new _ Z _ _ hints (fun a n c e => by cases e; simp)
        have hsz1 : (wd.alloc (.cells #[.int .i64 (-1)] 3)).heap.size = wd.heap.size + 1 := by simp
        have HBd : Hid (Below w.heap.size w ((wd.alloc (.cells #[.int .i64 (-1)] 3)).alloc (.cells #[.string Z, .slice (some ⟨wd.heap.size, 0, none⟩) 1 1, .int .i64 0] 37))) := by
          have h1 := below_on (unhide HBa) Gd (Nat.le_refl _)
          have h2 := h1.alloc h1.size (.cells #[.int .i64 (-1)] 3)
          exact h2.alloc h2.size _
        rw [hsz1] at hsrc
        have hld := load_large _ _ _ _ _ hsrc (by omega) (by omega) (fun a n c e => by cases e; simp; omega)
        clear Od Gd hints hsrc hsz1 HBa
        go_wp2_with fail
        refine hld.mono ?_
        rintro e we ⟨rfl, hSe, hGe⟩
        have q4 := hSe.c2
        have HBe := hide (below_on (unhide HBd) hGe (Nat.le_refl _))
        clear hld hSe hGe HBd hcv
        go_wp2_with fail
        go_ret
        exact ⟨rfl, unhide HBe⟩
end Go.Proofs.YthlincikgdblfaaGreat

namespace Go.Proofs.YthlincikgdblfaaGreat.failed
open Go.ChangeShapes Go.WideShapes Go.ChangeAt Go.RowKit
open Go.ChangeMaps (open_string shut_string)
set_option linter.unusedVariables false

set_option maxRecDepth 100000 in
theorem lifted (os : Os) (started : os.Started) (H : Type) (enc : TypeId × Value → H) :
    ReturnsInHanded {} Tryz.checked os 8 .any (Rows.failedSpec.pre6 enc Tryz.prog Tryz.f8 Rows.failedRow.domain false) (Rows.failedSpec.post enc Tryz.prog Tryz.f8 false true false false) := by
  refine returnsInHanded_of_change_sized (C := Tryz.checked) own0 started (by kernel_rfl) Tryz.func8
    (ChangeSpec.witness6 (enc := enc) (C := Tryz.checked) false ⟨#[], #[.string ByteArray.empty, .int .i64 0, .slice none 0 0, .int .i64 0, .int .i64 0], []⟩ 8 (by kernel_rfl) (by kernel_rfl) (by kernel_rfl) (by kernel_rfl)) ?_
  intro W base args ds gs before hval0 hW hcnd hsz0 _
  have hval : ∀ (j : Nat) t v, Tryz.f8.params[j]? = some t → args[j]? = some v → Value.okWide Tryz.prog W .any base t v := hval0
  have hsz : (DataW.weightsEach Tryz.prog (Tryz.f8.params.toList ++ Rows.failedSpec.plain.varTypes Tryz.prog) (ds ++ gs)).all (· ≤ reachBytes) = true := hsz0
  have hW' := hW
  obtain ⟨p, q, hA0, hV, rfl, hfz, hnd⟩ := hW
  have hA : DataW.TrodAll enc Tryz.prog W 0 (fun _ => true) true Tryz.f8.params.toList args.toList ds p := hA0
  rw [Tryz.params8] at hA hval hsz
  obtain ⟨v0, vs0, d0, ds0, p0, q0, hargs, rfl, rfl, h0, r0⟩ := trodAll_cons hA
  obtain ⟨v1, vs1, d1, ds1, p1, q1, rfl, rfl, rfl, h1, r1⟩ := trodAll_cons r0
  obtain ⟨v2, vs2, d2, ds2, p2, q2, rfl, rfl, rfl, h2, r2⟩ := trodAll_cons r1
  obtain ⟨v3, vs3, d3, ds3, p3, q3, rfl, rfl, rfl, h3, r3⟩ := trodAll_cons r2
  obtain ⟨v4, vs4, d4, ds4, p4, q4, rfl, rfl, rfl, h4, r4⟩ := trodAll_cons r3
  obtain ⟨rfl, rfl, rfl⟩ := trodAll_nil r4
  obtain rfl : args = #[v0, v1, v2, v3, v4] := by cases args; simp_all
  obtain ⟨rfl, rfl⟩ := trodVars_none hV
  obtain ⟨a0, rfl, rfl, rfl, w0⟩ := open_string Tryz.underlying9 (hval 0 9 v0 rfl rfl) h0
  obtain ⟨a1, rfl, rfl, rfl, w1⟩ := open_int Tryz.underlying3 (hval 1 3 v1 rfl rfl) h1
  obtain ⟨x2, l2, c2, e2⟩ := okWide_slice Tryz.underlying25 (hval 2 25 v2 rfl rfl)
  obtain ⟨a3, rfl, rfl, rfl, w3⟩ := open_int Tryz.underlying3 (hval 3 3 v3 rfl rfl) h3
  obtain ⟨a4, rfl, rfl, rfl, w4⟩ := open_int Tryz.underlying3 (hval 4 3 v4 rfl rfl) h4
  have hb0 : a0.size ≤ 140737488351232 := by
    have := sized_string hsz (j := 0) (t := 9) rfl rfl
    have e : a0.data.toList.length = a0.size := by simp
    simp only [reachBytes] at this
    omega
  have k2 := h2
  have lt2 : ∀ x ∈ p2, x.block < W.heap.size := by obtain ⟨m, hm⟩ := k2; exact DataW.trod_lt m _ _ _ hm
  obtain ⟨zs, hI, hlow, hd⟩ : ∃ zs : List Int, Ints W v2 zs ∧ (∀ a n c, v2 = .slice (some a) n c → a.block < W.heap.size ∨ zs = []) ∧ (zs = [] ∨ ∃ e s, d2 = .slice e s ∧ e.length = zs.length) := by
    obtain ⟨fuel, hf⟩ := h2
    exact open_list e2 hf
  have hz : zs.length * 8 ≤ 140737488355328 := by
    rcases hd with rfl | ⟨e, s, rfl, hel⟩
    · simp
    · have := sized_slice hsz (j := 2) (t := 25) (e := 3) rfl rfl Tryz.underlying25
      rw [bytes_int, hel] at this
      simp only [reachBytes] at this
      omega
  clear hA0 hval0 hsz hsz0
  refine (failed_walk a0 a1 v2 zs a3 a4 w0 (bounds_i64 w1) (bounds_i64 w3) (bounds_i64 w4) W hI hlow hz).mono fun e W' ⟨he, bel⟩ => ?_
  subst he
  exact ⟨_, rfl, _, _, _, [], _, [], hW', trodAll_mk1 (shut_bool Tryz.underlying4 _), (trodAll_cons_mk (shut_string Tryz.underlying9 w0) (trodAll_cons_mk (shut_int Tryz.underlying3 w1) (trodAll_cons_mk (Below.trod laidOut0 (by kernel_rfl) (of_decide_eq_true (by kernel_rfl)) k2 bel lt2) (trodAll_cons_mk (shut_int Tryz.underlying3 w3) (trodAll_cons_mk (shut_int Tryz.underlying3 w4) trodAll_mk0))))), rfl, bel.frame _, fun h => by cases h⟩

theorem over : Rows.failedRow.holds Tryz.pinned (OpenSpec.ofChange Rows.failedSpec) :=
  OpenClaim.holds_of_wide 8 Tryz.f8 rfl rfl rfl rfl rfl rfl rfl ⟨rfl, rfl, rfl, rfl, rfl⟩ rfl rfl rfl rfl rfl (by kernel_rfl) Tryz.func8 (by kernel_rfl)
    (of_decide_eq_true (by kernel_rfl)) (by unfold Func.isWrapper; first | (rw [if_pos (by decide +kernel)]; kernel_rfl) | (rw [if_neg (by decide +kernel)]; exact ⟨rfl, rfl⟩))
    (fun os started H enc _ => lifted os started H enc)
end Go.Proofs.YthlincikgdblfaaGreat.failed
namespace Go.Proofs.YthlincikgdblfaaGreat
theorem failed_holds : Rows.FailedSaid := failed.over
#print axioms failed_holds
end Go.Proofs.YthlincikgdblfaaGreat
