import Derived.Test.YthlincikgdblfaaGreatAl01
import Derived.Test.YthlincikgdblfaaGreatV28
import Derived.Deep.Cut
import Derived.Deep.DeepCutAuto
import Derived.Test.YthlincikgdblfaaGreatV30
namespace Go.Proofs.YthlincikgdblfaaGreat
set_option linter.unusedVariables false
open Go.RowKit

theorem ownsRow_below {w w' : World} {base b : Nat} {e : TypeId} {size : Nat} {v : Value} {n : Nat} {xs : List Value} (h : w.ownsRow base e size v n xs) (H : Below b w w') (hb : ∀ k, v.ownBlock = some k → k < b) : w'.ownsRow base e size v n xs := by
  obtain ⟨h1, h2⟩ := h
  refine ⟨h1, ?_⟩
  rcases h2 with h2 | ⟨g, cap, cur, hv, hB, hg, hr⟩
  · exact Or.inl h2
  · exact Or.inr ⟨g, cap, cur, hv, hB, by rw [H.block g (hb g (by rw [hv]; rfl))]; exact hg, hr⟩
theorem Wv.lt {K0 : Nat → Prop} {g : Nat} {w : World} {v : Value} {ps : List Pr} (h : Wv K0 g w v ps) : g < w.heap.size := World.block_lt_of_cell? w ⟨g, 0, none⟩ h.c0
theorem Wv.row_lt {K0 : Nat → Prop} {g : Nat} {w : World} {v : Value} {ps : List Pr} (h : Wv K0 g w v ps) : ∀ k, v.ownBlock = some k → g + 1 ≤ k ∧ k < w.heap.size := fun k e => World.ownsRow.lt h.row k e
theorem Wv.below {K0 : Nat → Prop} {g : Nat} {w w' : World} {v : Value} {ps : List Pr} (h : Wv K0 g w v ps) (H : Below w.heap.size w w') : Wv K0 g w' v ps ∧ Up g v w w' := by
  have hg := h.lt
  refine ⟨⟨(H.cell (p := ⟨g, 0, none⟩) hg).trans h.c0, (H.frozen (p := ⟨g, 0, none⟩) hg).trans h.f0, ownsRow_below h.row H (fun k e => (h.row_lt k e).2), fun q hq => (h.ok q hq).step (Keeps.below H) (fun _ _ h => h), fun i hi => Nat.lt_of_lt_of_le (h.kb i hi) H.size⟩, ?_⟩
  exact ⟨Keeps.below H, H.mono (Nat.le_of_lt hg), fun j _ => H.cell (p := ⟨g, j, none⟩) hg, fun j => H.frozen (p := ⟨g, j, none⟩) hg⟩
theorem add_off (b off j : Nat) : (⟨b, off, none⟩ : Addr).add j = ⟨b, off + j, none⟩ := by
  unfold Addr.add
  by_cases h0 : j = 0
  · subst h0; rfl
  · simp [h0]
/-- APPEND OF NUMBERS THAT CAME IN. -/
theorem wp_appS (w : World) {ops : Array Oper} {rest : List Oper} {o : Oper} {a : Act} {Q : Exit → Act → World → Prop} (hgd : o.guard = none) (s x : Operand)
    (ho : o.op = .call { callee := .builtin .append, args := #[s, x], argTypes := #[25, 25] })
    (B : Nat) (v : Value) (l : List Int) (hs : a.eval s = v) (hown : IsZ w B v l) (xv : Value) (m : List Int) (hx : a.eval x = xv) (hm : Ints w xv m) (hnil : ∀ n c, xv = .slice none n c → c = 0)
    (hl : (l.length + m.length) * 8 ≤ 140737488355328) (hB : B ≤ w.heap.size)
    (h : ∀ v' w', IsZ w' B v' (l ++ m) → w.grownBy w' v.ownBlock → wpList Tryz.prog ops Q rest (a.put o.dst v') w') : wpList Tryz.prog ops Q (o :: rest) a w := by
  obtain ⟨_, _, ad, c, rfl, hc⟩ := hm
  cases ad with
  | none =>
    have hm0 : m = [] := by
      rcases hc with hc | ⟨b, off, e, _⟩
      · exact hc
      · cases e
    subst hm0
    have := hnil _ _ rfl
    subst this
    obtain ⟨i0, hi, hz0, hz1, hz2⟩ := info_parts infoI
    refine wpList_append_own_none hgd s x 25 ho B 3 i0 1 Tryz.underlying25 hi v l.length (l.map (Value.int .i64)) hs hown hx ?_
    refine h v w ?_ (World.grownBy.refl _ _)
    rw [List.append_nil]
    exact hown
  | some ad =>
    refine wp_appZ w hgd s x ho B v l hs hown ad c m.length m rfl hx ?_ hl hB h
    intro j u hu
    have hj : j < m.length := by
      have := (List.getElem?_eq_some_iff.1 hu).1
      simpa using this
    rcases hc with hc | ⟨b, off, e, hcell⟩
    · subst hc; simp at hj
    · cases e
      rw [show (⟨b, off, none⟩ : Addr).add j = ⟨b, off + j, none⟩ from add_off b off j, hcell j hj, ← hu]
      simp [hj]
theorem cells_many_new (w : World) (l : List Value) (ty : TypeId) : ∀ j u, l[j]? = some u → (w.alloc (.cells l.toArray ty)).cell? ((⟨w.heap.size, 0, none⟩ : Addr).add j) = some u := by
  intro j u hu
  have hj := (List.getElem?_eq_some_iff.1 hu).1
  rw [addr_add, cells_new8 w l ty j hj, ← hu, List.getElem?_eq_getElem hj]
theorem infoPair : (Tryz.prog.info? 87).map (fun i => (i.zero, i.size, i.bytes)) = some (some (.agg #[.pointer none, .pointer none]), 2, 16) := by kernel_rfl
/-- APPEND OF A PAIR. -/
theorem wp_appP (w : World) {ops : Array Oper} {rest : List Oper} {o : Oper} {a : Act} {Q : Exit → Act → World → Prop} (hgd : o.guard = none) (s x : Operand)
    (ho : o.op = .call { callee := .builtin .append, args := #[s, x], argTypes := #[52, 52] })
    (B : Nat) (v : Value) (ps : List Pr) (q : Pr) (hs : a.eval s = v) (hown : w.ownsRow B 87 2 v ps.length (prCells ps)) (hx : a.eval x = .slice (some ⟨w.heap.size, 0, none⟩) 1 1)
    (hl : (ps.length + 1) * 16 ≤ 140737488355328) (hB : B ≤ w.heap.size)
    (h : ∀ v' w', w'.ownsRow B 87 2 v' (ps ++ [q]).length (prCells (ps ++ [q])) → (w.alloc (.cells #[.pointer (some ⟨q.p, 0, none⟩), .pointer (some ⟨q.g, 0, none⟩)] 87)).grownBy w' v.ownBlock → (v'.ownBlock = v.ownBlock ∨ v'.ownBlock = some (w.heap.size + 1)) → wpList Tryz.prog ops Q rest (a.put o.dst v') w') : wpList Tryz.prog ops Q (o :: rest) a (w.alloc (.cells #[.pointer (some ⟨q.p, 0, none⟩), .pointer (some ⟨q.g, 0, none⟩)] 87)) := by
  obtain ⟨i0, hi, hz0, hz1, hz2⟩ := info_parts infoPair
  refine wpList_append_own_at _ hgd s x 52 ho B 87 i0 _ 2 16 Tryz.underlying52 hi hz0 hz1 hz2 rfl (by decide) v ps.length (prCells ps) hs (World.ownsRow.alloc hown _) ⟨w.heap.size, 0, none⟩ 1 1 [.pointer (some ⟨q.p, 0, none⟩), .pointer (some ⟨q.g, 0, none⟩)] hx rfl (cells_many_new w _ _) (by intro u hu; simp at hu; rcases hu with rfl | rfl <;> rfl) (by unfold maxLen; omega) hl (by simp; omega) ?_
  intro v' w' h1 h2 h3 h4
  refine h v' w' ?_ h2 (by simpa using h4)
  rw [prCells_snoc, List.length_append]
  exact h1
theorem Up.trans {g : Nat} {v : Value} {a b c : World} (h : Up g v a b) (k : Up g v b c) : Up g v a c := ⟨h.keeps.trans k.keeps, h.below.trans k.below, fun j hj => (k.cells j hj).trans (h.cells j hj), fun j => (k.free j).trans (h.free j)⟩
theorem ownsRow_shape {w : World} {B : Nat} {e : TypeId} {size : Nat} {v : Value} {n : Nat} {xs : List Value} (h : w.ownsRow B e size v n xs) : ∃ a m c, v = .slice a m c := by
  rcases h.2 with ⟨h0, _⟩ | ⟨g, cap, cur, hv, _⟩
  · exact ⟨_, _, _, h0⟩
  · exact ⟨_, _, _, hv⟩
/-- One index more. -/
theorem Wv.snoc {K0 : Nat → Prop} {g : Nat} {w w' : World} {v v' : Value} {ps : List Pr} {q : Pr} (h : Wv K0 g w v ps) (hq : PairOk (Kof K0 g v) w q) (R : w'.ownsRow (g + 1) 87 2 v' (ps ++ [q]).length (prCells (ps ++ [q]))) (G : (w.alloc (.cells #[.pointer (some ⟨q.p, 0, none⟩), .pointer (some ⟨q.g, 0, none⟩)] 87)).grownBy w' v.ownBlock) (hob : v'.ownBlock = v.ownBlock ∨ v'.ownBlock = some (w.heap.size + 1)) :
    w'.cell? ⟨g, 0, none⟩ = some v ∧ w'.frozen? ⟨g, 0, none⟩ = false ∧ Wv K0 g (w'.setCell ⟨g, 0, none⟩ v') v' (ps ++ [q]) ∧ Up g v w (w'.setCell ⟨g, 0, none⟩ v') := by
  have hg := h.lt
  have G0 : w.grownBy (w.alloc (.cells #[.pointer (some ⟨q.p, 0, none⟩), .pointer (some ⟨q.g, 0, none⟩)] 87)) none := World.grownBy_alloc w _ none
  have hne : v.ownBlock ≠ some g := fun e => by have := (h.row_lt g e).1; omega
  have hg2 : g < (w.alloc (.cells #[.pointer (some ⟨q.p, 0, none⟩), .pointer (some ⟨q.g, 0, none⟩)] 87)).heap.size := Nat.lt_of_lt_of_le hg G0.size
  have cc : ∀ j, w'.cell? ⟨g, j, none⟩ = w.cell? ⟨g, j, none⟩ := fun j => (grown_cell G hg2 hne j).trans (grown_cell G0 hg (by simp) j)
  have ff : ∀ j, w'.frozen? ⟨g, j, none⟩ = w.frozen? ⟨g, j, none⟩ := fun j => (grown_frozen G hg2 hne j).trans (grown_frozen G0 hg (by simp) j)
  have hk : Keeps (Kof noK g v) w (w'.setCell ⟨g, 0, none⟩ v') := by
    refine ((Keeps.grown G0 (fun j e => by cases e)).trans (Keeps.grown G (fun j e => Or.inl (Or.inr (Or.inl e))))).trans ⟨by simp, fun i hi hK => ?_⟩
    exact heap_setCell_other w' ⟨g, 0, none⟩ i _ (fun e => hK (Or.inl e))
  refine ⟨(cc 0).trans h.c0, (ff 0).trans h.f0, ⟨?_, ?_, ?_, ?_, fun i hi => Nat.lt_of_lt_of_le (h.kb i hi) hk.size⟩, hk, ?_, ?_, ?_⟩
  · exact World.cell?_setCell_same _ _ _ ((cc 0).trans h.c0)
  · exact (World.frozen?_setCell _ _ _ _).trans ((ff 0).trans h.f0)
  · exact ownsRow_setCell_below R (by simp) _
  · intro q' hq'
    have hok : PairOk (Kof K0 g v) w q' := by
      rcases List.mem_append.1 hq' with h1 | h1
      · exact h.ok q' h1
      · rw [List.mem_singleton.1 h1]
        exact hq
    refine hok.step (hk.mono (fun i h => h.imp id (fun h => h.imp id (fun h => absurd h id)))) (fun i hi hK => ?_)
    rcases hK with hK | hK | hK
    · exact Or.inl hK
    · rcases hob with e | e
      · exact Or.inr (Or.inl (e.symm.trans hK))
      · rw [e] at hK
        injection hK
        omega
    · exact Or.inr (Or.inr hK)
  · refine (below_grown G0 (Nat.le_of_lt hg) (fun k e => by cases e)).trans ((below_grown G (Nat.le_of_lt hg2) (fun k e => by have := (h.row_lt k e).1; omega)).trans (below_setCell _ _ _ _ _ (Nat.le_refl _)))
  · intro j hj
    exact (World.cell?_setCell_other _ _ _ _ (by intro e; injection e with _ e2; exact hj e2.symm)).trans (cc j)
  · intro j
    exact (World.frozen?_setCell _ _ _ _).trans (ff j)
end Go.Proofs.YthlincikgdblfaaGreat

namespace Go.Proofs.YthlincikgdblfaaGreat
set_option linter.unusedVariables false
open Go.RowKit

/-- The owner writes over the list. -/
def overTo (l : List Int) (k : Nat) : List Int := (List.range l.length).map fun i => if i < k then 1 else l.getD i 0
theorem overTo_len (l : List Int) (k : Nat) : (overTo l k).length = l.length := by simp [overTo]
theorem overTo_zero (l : List Int) : overTo l 0 = l := by
  apply List.ext_getElem
  · simp [overTo]
  · intro i h1 h2
    simp [overTo, List.getD, h2]
theorem overTo_set (l : List Int) (k : Nat) (hk : k < l.length) : ((overTo l k).map (Value.int .i64)).set k (.int .i64 1) = (overTo l (k + 1)).map (Value.int .i64) := by
  apply List.ext_getElem
  · simp [overTo]
  · intro i h1 h2
    have hi : i < l.length := by simpa [overTo] using h2
    rw [List.getElem_set]
    by_cases e : k = i
    · subst e
      simp [overTo]
    · rw [if_neg e]
      simp only [overTo, List.getElem_map, List.getElem_range]
      by_cases h3 : i < k
      · rw [if_pos h3, if_pos (by omega)]
      · rw [if_neg h3, if_neg (by omega)]
theorem overTo_at (l : List Int) (k : Nat) (hk : k < l.length) : (overTo l k)[k]'(by rw [overTo_len]; exact hk) = l[k]'hk := by
  simp [overTo, List.getD, hk]
/-- Behind k of the list's places. -/
def LdV (w6 : World) (B gl cap N : Nat) (l : List Int) (ov iv : Value) (wr : World) : Prop := ∃ k : Nat, k ≤ N ∧ iv = .int .i64 (k : Int) ∧ ov = .bool true ∧ IsZ wr B (.slice (some ⟨gl, 0, none⟩) N cap) (overTo l k) ∧ w6.grownBy wr (some gl)
theorem LdV.mk {w6 : World} {B gl cap N : Nat} {l : List Int} {ov iv : Value} {wr : World} (k : Nat) (h1 : k ≤ N) (h2 : iv = .int .i64 (k : Int)) (h3 : ov = .bool true) (h4 : IsZ wr B (.slice (some ⟨gl, 0, none⟩) N cap) (overTo l k)) (h5 : w6.grownBy wr (some gl)) : LdV w6 B gl cap N l ov iv wr := ⟨k, h1, h2, h3, h4, h5⟩
set_option maxRecDepth 100000 in
set_option maxHeartbeats 4000000 in
theorem wload_any (K0 : Nat → Prop) (g : Nat) (S : ByteArray) (sv : Value) (zs : List Int) (v : Value) (ps : List Pr) (w : World) (hW : Wv K0 g w v ps) (hI : Ints w sv zs) (hnil : ∀ n c, sv = .slice none n c → c = 0) (hlow : ∀ a n c, sv = .slice (some a) n c → a.block < w.heap.size ∨ zs = []) (hz : zs.length * 8 ≤ 140737488351232) (hS : S.size ≤ 140737488351232) (hps : (ps.length + 1) * 16 ≤ 140737488355328) :
    Calls Tryz.prog 40 #[.pointer (some ⟨g, 0, none⟩), .string S, sv] w fun e w' => e = .returned (.bool true) ∧ ∃ v' ps', Wv K0 g w' v' ps' ∧ ps'.length ≤ ps.length + 1 ∧ (∀ j, v'.ownBlock = some j → v.ownBlock = some j ∨ w.heap.size ≤ j) ∧ Up g v w w' := by
  have HW := hide hW
  have HI := hide hI
  have HL := hide hlow
  have HN := hide hnil
  obtain ⟨_, _, sa, sc, hsv, _⟩ := hI
  subst hsv
  clear hW hlow hnil
  generalize hn : zs.length = n at hz HI HL HN ⊢
  have HNn := hide hn
  clear hn
  go_enter Tryz.func40, Tryz.ntmps40
  go_wp2_with (at_builtin; refine wp_appS _ rfl (.tmp 17) (.tmp 18) rfl w.heap.size _ [] rfl (IsZ.nil _ _) (.slice sa n sc) zs rfl (unhide HI) (unhide HN) ?a2 ?a3 ?_)
  case a2 => rw [unhide HNn]; simp; omega
  case a3 => exact Nat.le_refl _
  intro v1 w1 I1 g1
  have g1' : w.grownBy w1 none := g1
  obtain ⟨x1, n1, c1, rfl, hn1⟩ := I1.shape
  have HB1 := hide (Below.of_grown g1')
  have hle1 := g1'.size
  have hv1 := fun k e => (World.ownsRow.lt I1 k e).1
  have HV1 := hide hv1
  have HC3 := hide (cells_many_new w1 [.int .i64 77, .int .i64 77, .int .i64 77] 3)
  have HI1 := hide (World.ownsRow.alloc I1 (.cells #[.int .i64 77, .int .i64 77, .int .i64 77] 3))
  clear g1 g1' hn1 I1 hv1
  go_wp2_with (at_builtin; refine wp_appZ _ rfl (.tmp 20) (.tmp 21) rfl w.heap.size _ zs rfl (unhide HI1) ⟨w1.heap.size, 0, none⟩ 3 3 [77, 77, 77] rfl rfl (unhide HC3) ?b2 ?b3 ?_)
  case b2 => rw [unhide HNn]; simp; omega
  case b3 => simp; omega
  intro v2 w2 I2 g2
  have hLL : (zs ++ [77, 77, 77]).length = n + 3 := by rw [List.length_append, unhide HNn]; rfl
  have HB2 : Hid (Below w.heap.size w w2) := Below.grown ((unhide HB1).alloc (unhide HB1).size _) g2 (by simp; omega) (unhide HV1)
  have h7 : ∀ i (hi : i < (zs ++ [77, 77, 77]).length), n ≤ i → (zs ++ [77, 77, 77])[i]'hi = 77 := by
    intro i hi hni
    rw [List.getElem_append_right (by rw [unhide HNn]; exact hni)]
    have hm := List.getElem_mem (l := [(77 : Int), 77, 77]) (n := i - zs.length) (by have := unhide HNn; simp at hi ⊢; omega)
    simp only [List.mem_cons, List.not_mem_nil, or_false, or_self] at hm
    exact hm
  have hzz : ∀ i (hi : i < (zs ++ [77, 77, 77]).length) (h2 : i < zs.length), (zs ++ [77, 77, 77])[i]'hi = zs[i]'h2 := fun i hi h2 => List.getElem_append_left h2
  generalize zs ++ [77, 77, 77] = LL at I2 hLL h7 hzz
  have HLL := hide hLL
  have H7 := hide h7
  have HZZ := hide hzz
  rcases I2.form with ⟨_, h0⟩ | ⟨gl, cap, rfl, hgl1, hgl2, hcap⟩
  · rw [h0] at hLL
    simp at hLL
  rw [hLL] at I2 hcap ⊢
  have hints : Ints w2 (.slice (some ⟨gl, 0, none⟩) n cap) zs := by
    refine ⟨(unhide HI).1, by have := unhide HNn; omega, some ⟨gl, 0, none⟩, cap, by rw [unhide HNn], Or.inr ⟨gl, 0, rfl, fun i hi => ?_⟩⟩
    have hi2 : i < LL.length := by have := unhide HNn; omega
    rw [Nat.zero_add, IsZ.cell (l := LL) I2 i hi2, unhide HZZ i hi2 hi]
  have hsrc := src_new w2 S (.slice (some ⟨gl, 0, none⟩) n cap) zs hints (fun a n c e => by cases e; exact hgl2)
  have hld := load_all w2.heap.size S _ zs _ hsrc (by omega) (fun a n c e => by cases e; simp; omega)
  have HZ4 := hide (World.ownsRow.alloc I2 (.cells #[.string S, .slice (some ⟨gl, 0, none⟩) n cap, .int .i64 0] 37))
  have HB4 : Hid (Below w.heap.size w (w2.alloc (.cells #[.string S, .slice (some ⟨gl, 0, none⟩) n cap, .int .i64 0] 37))) := (unhide HB2).alloc (unhide HB2).size _
  have hle2 : w.heap.size ≤ w2.heap.size := (unhide HB2).size
  clear I2 g2 hLL h7 hzz hints hsrc HB1 HV1 HC3 HI1 HB2
  go_wp2_with fail
  refine hld.mono ?_
  rintro e w5 ⟨x, k, en, p, rfl, hen, hLd, hS5, hG5, hx0, hx1⟩
  have hsz4 : (w2.alloc (.cells #[.string S, .slice (some ⟨gl, 0, none⟩) n cap, .int .i64 0] 37)).heap.size = w2.heap.size + 1 := by simp
  have HZ5 := hide (World.ownsRow.kept (unhide HZ4) hG5 (Or.inr (by simp [Value.ownBlock]; omega)))
  have HB5 : Hid (Below w.heap.size w w5) := (unhide HB4).grown hG5 (unhide HB4).size (fun k e => by injection e; omega)
  have hsz5 : w2.heap.size + 1 ≤ w5.heap.size := by have := hG5.size; omega
  rw [hsz4] at hx1
  have hrl := rload_any S (.slice sa n sc) zs w5 (by unfold maxLen; omega) ((unhide HI).below (unhide HB5) (unhide HL))
  have HS5 := hide hS5
  have HLd := hide hLd
  have HX := hide (And.intro hx0 hx1)
  clear hld hG5 hS5 HZ4 HB4 hLd hx0 hx1 hsz4
  go_wp2_with fail
  refine hrl.mono ?_
  rintro e w6 ⟨x', k', en', p', rfl, hLd', hRi, hG6⟩
  obtain ⟨ex, ek, ee⟩ := (unhide HLd).same hLd'
  subst ex ek ee
  have hS6 := (unhide HS5).grown hG6 (by simp) (fun _ _ _ _ => by simp)
  have s0 := hS6.c0
  have s1 := hS6.c1
  have s2 := hS6.c2
  have HF02 := hide (And.intro hS6.f0 hS6.f2)
  have HZ6 := hide (ownsRow_kept0 (unhide HZ5) hG6)
  have HB6 := hide (below_on (unhide HB5) hG6 (Nat.le_refl _))
  have HRi := hide hRi
  have HG6 := hide hG6
  have hsz6 := hG6.size
  clear hrl hLd' hRi hG6 hS6 HS5 HZ5
  go_wp2_with fail
  go_loopw [14, 15] (fun ov iv wr => LdV w6 w.heap.size gl cap (n + 3) LL ov iv wr) (fun _ iv _ => n + 3 - (intOf iv).toNat)
  case atStart => exact LdV.mk 0 (by omega) rfl rfl (by rw [overTo_zero]; exact unhide HZ6) (World.grownBy.refl _ _)
  case round =>
    obtain ⟨k2, hk2, rfl, rfl, Z, Gr⟩ := hrel
    have HBr : Hid (Below w.heap.size w wr) := (unhide HB6).grown Gr (unhide HB6).size (fun k e => by injection e; omega)
    by_cases hlt : k2 < n + 3
    · have hkL : k2 < LL.length := by rw [unhide HLL]; exact hlt
      have hcell := IsZ.cell Z k2 (by rw [overTo_len]; exact hkL)
      rw [overTo_at LL k2 hkL] at hcell
      have Z' : wr.ownsRow w.heap.size 3 1 (.slice (some ⟨gl, 0, none⟩) (n + 3) cap) (n + 3) ((overTo LL k2).map (Value.int .i64)) := by
        have h1 := Z
        unfold IsZ at h1
        rwa [overTo_len, unhide HLL] at h1
      have hf := World.ownsRow.frozenAt Z' k2
      have HST := hide (World.ownsRow.stored Z' k2 (.int .i64 1))
      have HSET := hide (overTo_set LL k2 hkL)
      have HGr := hide Gr
      clear Z Z' Gr
      by_cases hkn : k2 < n
      · have d1 : decide ((k2 : Int) < (n : Int)) = true := by simp; omega
        have hkz : k2 < zs.length := by rw [unhide HNn]; exact hkn
        have hIr := (unhide HI).below (unhide HBr) (unhide HL)
        obtain ⟨hzb, _, a', c', hv', hc'⟩ := hIr
        rcases hc' with hc' | ⟨b', off, ha', hc'⟩
        · rw [hc'] at hkz; simp at hkz
        cases hv'
        subst ha'
        have hck := hc' k2 hkz
        have hbz := hzb _ (List.getElem_mem hkz)
        rw [unhide HZZ k2 hkL hkz] at hcell
        generalize zs[k2]'hkz = zk at hcell hck hbz
        clear hc' hzb
        go_wp2_with fail
        go_roundw
        case rel =>
          have hs := unhide HST
          refine LdV.mk (k2 + 1) (by omega) (by go_num) (by simp) ?_ (grown_trans (unhide HGr) hs.2 (Or.inl rfl))
          unfold IsZ
          rw [overTo_len, unhide HLL, ← unhide HSET]
          exact hs.1
        case measure => first | (simp [intOf]; done) | (simp [intOf]; omega)
      · have d1 : decide ((k2 : Int) < (n : Int)) = false := by simp; omega
        rw [unhide H7 k2 hkL (by omega)] at hcell
        go_wp2_with fail
        go_roundw
        case rel =>
          have hs := unhide HST
          refine LdV.mk (k2 + 1) (by omega) (by go_num) (by simp) ?_ (grown_trans (unhide HGr) hs.2 (Or.inl rfl))
          unfold IsZ
          rw [overTo_len, unhide HLL, ← unhide HSET]
          exact hs.1
        case measure => first | (simp [intOf]; done) | (simp [intOf]; omega)
    · have hb6 : w2.heap.size < w6.heap.size := by omega
      have hnb : (some gl : Option Nat) ≠ some w2.heap.size := by intro e; injection e; omega
      have t0 := (grown_cell Gr hb6 hnb 0).trans s0
      have t2 := (grown_cell Gr hb6 hnb 2).trans s2
      have q0 := (grown_frozen Gr hb6 hnb 0).trans (unhide HF02).1
      have q2 := (grown_frozen Gr hb6 hnb 2).trans (unhide HF02).2
      have t3 : (wr.setCell ⟨w2.heap.size, 0, none⟩ (.string ⟨#[111, 118, 101, 114]⟩)).cell? ⟨w2.heap.size, 2, none⟩ = some (.int .i64 (k : Int)) := (World.cell?_setCell_other _ _ _ _ (by simp)).trans t2
      have q3 : (wr.setCell ⟨w2.heap.size, 0, none⟩ (.string ⟨#[111, 118, 101, 114]⟩)).frozen? ⟨w2.heap.size, 2, none⟩ = false := (World.frozen?_setCell _ _ _ _).trans q2
      have HGr := hide Gr
      clear Z Gr HZ6 HB6 HZZ H7 HLL
      have HB8 : Hid (Below w.heap.size w ((wr.setCell ⟨w2.heap.size, 0, none⟩ (.string ⟨#[111, 118, 101, 114]⟩)).setCell ⟨w2.heap.size, 2, none⟩ (.int .i64 0))) := ((unhide HBr).setCell hle2 _).setCell hle2 _
      have HBl8 : Hid (∀ i, i ≠ w2.heap.size → ((wr.setCell ⟨w2.heap.size, 0, none⟩ (.string ⟨#[111, 118, 101, 114]⟩)).setCell ⟨w2.heap.size, 2, none⟩ (.int .i64 0)).heap[i]? = wr.heap[i]?) := fun i hi => (heap_setCell_other _ ⟨w2.heap.size, 2, none⟩ i _ hi).trans (heap_setCell_other _ ⟨w2.heap.size, 0, none⟩ i _ hi)
      have hsz8 : ((wr.setCell ⟨w2.heap.size, 0, none⟩ (.string ⟨#[111, 118, 101, 114]⟩)).setCell ⟨w2.heap.size, 2, none⟩ (.int .i64 0)).heap.size = wr.heap.size := by simp
      have HSZ8 := hide hsz8
      go_upto_region 18 with fail
      clear t0 t2 q0 q2 t3 q3 s0 s1 s2 HBr hsz8
      generalize ((wr.setCell ⟨w2.heap.size, 0, none⟩ (.string ⟨#[111, 118, 101, 114]⟩)).setCell ⟨w2.heap.size, 2, none⟩ (.int .i64 0)) = w8 at HB8 HBl8 HSZ8 ⊢
      cases x with
      | none =>
        have hp0 := (unhide HX).1 rfl
        subst hp0
        have hp1 : p' = .pointer none := unhide HRi
        subst hp1
        go_wp2_with fail
        refine (num_any _ _ (by omega) (by omega)).mono ?_
        rintro e wa ⟨rfl, hw⟩
        replace hw := hw.symm
        subst hw
        go_wp2_with fail
        refine (num_any _ _ (by omega) (by omega)).mono ?_
        rintro e wa ⟨rfl, hw⟩
        replace hw := hw.symm
        subst hw
        go_wp2_with fail
        go_ret
        obtain ⟨h1, h2⟩ := (unhide HW).below (unhide HB8)
        exact ⟨rfl, v, ps, h1, by omega, fun j e => Or.inl e, h2⟩
      | some tr =>
        obtain ⟨tt, rr'⟩ := tr
        obtain ⟨q, hq, hidx⟩ := (unhide HX).2 tt rr' rfl
        subst hq
        obtain ⟨gy, hp1, hgy, y0, y1⟩ := unhide HRi
        subst hp1
        obtain ⟨h8, hU8⟩ := (unhide HW).below (unhide HB8)
        have hrl := h8.row_lt
        have hvl : ∀ i, v.ownBlock = some i → i < w.heap.size := fun i e => ((unhide HW).row_lt i e).2
        have hgw := (unhide HW).lt
        have hszr := (unhide HGr).size
        have hsz8 := unhide HSZ8
        have hblk : ∀ i, w2.heap.size + 1 ≤ i → i < w6.heap.size → w8.heap[i]? = w6.heap[i]? := fun i h1 h2 => (unhide HBl8 i (by omega)).trans ((unhide HGr).block i h2 (by intro e; injection e; omega))
        have hnk : ∀ i, w2.heap.size + 1 ≤ i → ¬ Kof K0 g v i := by
          rintro i h1 (h2 | h2 | h2)
          · omega
          · have := hvl i h2; omega
          · have := (unhide HW).kb i h2; omega
        have hgy6 : gy < w6.heap.size := World.block_lt_of_cell? w6 ⟨gy, 0, none⟩ y0
        have HOK : Hid (PairOk (Kof K0 g v) w8 ⟨q, gy, tt, rr'⟩) := by
          intro w'' H
          refine ⟨⟨w2.heap.size + 1, S.data.toList, hidx.stay ⟨by have := H.size; omega, fun i h1 h2 => ?_⟩⟩, ?_, ?_⟩
          · exact (H.block i (by omega) (hnk i h1)).trans ((hblk i h1 (by omega)).trans ((unhide HG6).block i h2 (by simp)))
          · exact H.cell (hnk gy (by omega)) ((World.cell?_of_block (hblk gy (by omega) hgy6)).trans y0)
          · exact H.cell (hnk gy (by omega)) ((World.cell?_of_block (hblk gy (by omega) hgy6)).trans y1)
        have z0 := h8.c0
        have H8 := hide h8
        have HU8 := hide hU8
        have hlg : g + 1 ≤ w8.heap.size := h8.lt
        have hw8le : w.heap.size ≤ w8.heap.size := (unhide HB8).size
        clear h8 hU8 hidx y0 y1 hblk hnk hrl hvl hsz8 hszr HB8 HBl8 HX HRi HGr HG6 HLd HF02
        go_wp2_with fail
        refine (num_any _ _ (by omega) (by omega)).mono ?_
        rintro e wa ⟨rfl, hw⟩
        replace hw := hw.symm
        subst hw
        go_wp2_with fail
        refine (num_any _ _ (by omega) (by omega)).mono ?_
        rintro e wa ⟨rfl, hw⟩
        replace hw := hw.symm
        subst hw
        go_wp2_with (at_builtin; refine wp_appP w8 rfl (.tmp 116) (.tmp 120) rfl (g + 1) v ps ⟨q, gy, tt, rr'⟩ rfl (unhide H8).row rfl ?c1 ?c2 ?_)
        case c1 => exact hps
        case c2 => exact hlg
        intro v9 w9 R9 G9 hob
        obtain ⟨k1, k2', k3, k4⟩ := (unhide H8).snoc (unhide HOK) (by rw [List.length_append]; exact R9) G9 hob
        obtain ⟨x9, n9, c9, rfl⟩ := ownsRow_shape R9
        have hvn : ∀ j, (Value.slice x9 n9 c9).ownBlock = some j → v.ownBlock = some j ∨ w.heap.size ≤ j := by
          intro j e
          rcases hob with h | h
          · exact Or.inl (h.symm.trans e)
          · rw [h] at e
            injection e
            omega
        have HFIN := hide (And.intro k3 (And.intro hvn ((unhide HU8).trans k4)))
        clear R9 G9 hob k3 k4 hvn HOK H8 HU8
        go_wp2_with fail
        go_ret
        exact ⟨rfl, _, _, (unhide HFIN).1, by simp, (unhide HFIN).2.1, (unhide HFIN).2.2⟩
end Go.Proofs.YthlincikgdblfaaGreat

namespace Go.Proofs.YthlincikgdblfaaGreat
set_option linter.unusedVariables false
open Go.RowKit

/-- The document's file of a text, or none. -/
theorem rb_any (s : ByteArray) (a : Int) (hs : s.size ≤ maxLen) : ∃ (x : ByteArray) (e : Int), x.size ≤ 2000 ∧ 0 ≤ e ∧ e ≤ 4 ∧ ∀ w, Calls Tryz.prog 38 #[.string s, .int .i64 a] w fun en w' => en = .returned (.tuple #[.string x, .int .i64 e]) ∧ Below w.heap.size w w' := by
  by_cases h : s.size ≤ 250 ∧ isRate a = true
  · obtain ⟨h1, h2⟩ := h
    obtain ⟨r, rfl⟩ : ∃ r : Nat, a = (r : Int) := by
      refine ⟨a.toNat, ?_⟩
      have : a = 1 ∨ a = 2 ∨ a = 4 ∨ a = 8 := by
        unfold isRate at h2
        simp at h2
        omega
      omega
    by_cases hex : ∃ rows, Rot.IsRows s.data.toList rows
    · obtain ⟨rows, hR⟩ := hex
      have hsz : (Sb (Rot.fileOf s.data.toList rows r)).size ≤ 2000 := by
        rw [Sb_size]
        exact (Rot.IsFile.size (⟨by simpa using h1, h2, rows, hR, rfl⟩ : Rot.IsFile (Rot.fileOf s.data.toList rows r) s.data.toList r)).2.2
      refine ⟨Sb (Rot.fileOf s.data.toList rows r), 0, hsz, by omega, by omega, fun w => ?_⟩
      refine (rbuild_yes s r w h1 h2).mono ?_
      rintro e w' ⟨rows', rfl, hR', g⟩
      rw [Rot.rows_unique hR' hR]
      exact ⟨rfl, Below.of_grown g⟩
    · refine ⟨⟨#[]⟩, 0, by decide, by omega, by omega, fun w => ?_⟩
      refine (rbuild_yes s r w h1 h2).mono ?_
      rintro e w' ⟨rows', _, hR', _⟩
      exact absurd ⟨rows', hR'⟩ hex
  · refine ⟨⟨#[]⟩, 1, by decide, by omega, by omega, fun w => ?_⟩
    refine (rbuild_no s a w hs h).mono ?_
    rintro e w' ⟨rfl, rfl⟩
    exact ⟨rfl, Below.refl _ _⟩
/-- What a step leaves. -/
def StepOut (K0 : Nat → Prop) (g : Nat) (v : Value) (ps : List Pr) (w w' : World) : Prop := ∃ v' ps', Wv K0 g w' v' ps' ∧ ps'.length ≤ ps.length + 1 ∧ (∀ j, v'.ownBlock = some j → v.ownBlock = some j ∨ w.heap.size ≤ j) ∧ Up g v w w'
theorem StepOut.below {K0 : Nat → Prop} {g : Nat} {v : Value} {ps : List Pr} {w w' : World} (h : Wv K0 g w v ps) (H : Below w.heap.size w w') : StepOut K0 g v ps w w' := ⟨v, ps, (h.below H).1, by omega, fun j e => Or.inl e, (h.below H).2⟩
theorem StepOut.after {K0 : Nat → Prop} {g : Nat} {v : Value} {ps : List Pr} {w w1 w' : World} (h : Wv K0 g w v ps) (H : Below w.heap.size w w1) (k : ∃ v' ps', Wv K0 g w' v' ps' ∧ ps'.length ≤ ps.length + 1 ∧ (∀ j, v'.ownBlock = some j → v.ownBlock = some j ∨ w1.heap.size ≤ j) ∧ Up g v w1 w') : StepOut K0 g v ps w w' := by
  obtain ⟨v', ps', k1, k2, k4, k3⟩ := k
  exact ⟨v', ps', k1, k2, fun j e => (k4 j e).imp id (fun h => Nat.le_trans H.size h), (h.below H).2.trans k3⟩
/-- A list of a step. -/
structure LOk (w : World) (lv : Value) (zs : List Int) : Prop where
  ints : Ints w lv zs
  nil : ∀ n c, lv = .slice none n c → c = 0
  low : ∀ a n c, lv = .slice (some a) n c → a.block < w.heap.size ∨ zs = []
  len : zs.length * 8 ≤ 140737488351232
theorem LOk.below {w w' : World} {lv : Value} {zs : List Int} {B : Nat} (h : LOk w lv zs) (H : Below B w w') (hB : w.heap.size ≤ B) : LOk w' lv zs := ⟨h.ints.below H (fun a n c e => (h.low a n c e).imp (fun h => by omega) id), h.nil, fun a n c e => (h.low a n c e).imp (fun h => by have := H.size; omega) id, h.len⟩
set_option maxRecDepth 100000 in
set_option maxHeartbeats 1000000 in
theorem step_load (K0 : Nat → Prop) (s : ByteArray) (a k b : Int) (lv : Value) (zs : List Int) (g : Nat) (v : Value) (ps : List Pr) (w : World) (hW : Wv K0 g w v ps) (hL : LOk w lv zs) (hs : s.size ≤ 140737488351232) (hps : (ps.length + 1) * 16 ≤ 140737488355328) :
    Calls Tryz.prog 24 #[.pointer (some ⟨g, 0, none⟩), .agg #[.int .i64 2, .int .i64 k, .string s, .int .i64 a, .int .i64 b, lv]] w fun en w' => en = .returned (.bool true) ∧ StepOut K0 g v ps w w' := by
  obtain ⟨_, _, la, lc, hlv, _⟩ := hL.ints
  generalize zs.length = ln at hlv
  subst hlv
  have HB : Hid (Below w.heap.size w (w.alloc (.cells #[.int .i64 2, .int .i64 k, .string s, .int .i64 a, .int .i64 b, .slice la ln lc] 58))) := Below.alloc0 _
  have hL1 := hL.below (unhide HB) (Nat.le_refl _)
  have hcon := wload_any K0 g s (.slice la ln lc) zs v ps _ ((hW.below (unhide HB)).1) hL1.ints hL1.nil hL1.low hL1.len hs hps
  have HW := hide hW
  clear hW hL hL1
  go_enter Tryz.func24, Tryz.ntmps24
  go_wp2_with fail
  refine hcon.mono ?_
  rintro en w2 ⟨rfl, hk⟩
  have HK := hide (StepOut.after (unhide HW) (unhide HB) hk)
  clear hcon hk HB
  go_wp2_with fail
  go_ret
  exact ⟨rfl, unhide HK⟩
set_option maxRecDepth 100000 in
set_option maxHeartbeats 1000000 in
theorem step_made (K0 : Nat → Prop) (s : ByteArray) (a k b : Int) (lv : Value) (zs : List Int) (g : Nat) (v : Value) (ps : List Pr) (w : World) (hW : Wv K0 g w v ps) (hL : LOk w lv zs) (hs : s.size ≤ maxLen) (hps : (ps.length + 1) * 16 ≤ 140737488355328) :
    Calls Tryz.prog 24 #[.pointer (some ⟨g, 0, none⟩), .agg #[.int .i64 3, .int .i64 k, .string s, .int .i64 a, .int .i64 b, lv]] w fun en w' => en = .returned (.bool true) ∧ StepOut K0 g v ps w w' := by
  obtain ⟨_, _, la, lc, hlv, _⟩ := hL.ints
  generalize zs.length = ln at hlv
  subst hlv
  obtain ⟨x, e, hx, _, _, hR⟩ := rb_any s a hs
  have HR := hide hR
  have HW := hide hW
  have HL := hide hL
  clear hW hL hR
  go_enter Tryz.func24, Tryz.ntmps24
  go_wp2_with fail
  refine (unhide HR _).mono ?_
  rintro en w1 ⟨rfl, B1⟩
  have c5 : w1.cell? ⟨w.heap.size, 5, none⟩ = some (.slice la ln lc) := (B1.cell (by simp)).trans (cells_new8 w _ _ 5 (by simp))
  have HB1 : Hid (Below w.heap.size w w1) := (Below.alloc0 _).trans (B1.mono (by simp))
  have hL1 := (unhide HL).below (unhide HB1) (Nat.le_refl _)
  have hcon := wload_any K0 g x (.slice la ln lc) zs v ps w1 (((unhide HW).below (unhide HB1)).1) hL1.ints hL1.nil hL1.low hL1.len (by omega) hps
  clear B1 HR hL1
  go_wp2_with fail
  refine hcon.mono ?_
  rintro en w2 ⟨rfl, hk⟩
  have HK := hide (StepOut.after (unhide HW) (unhide HB1) hk)
  clear hcon hk HB1
  go_wp2_with fail
  go_ret
  exact ⟨rfl, unhide HK⟩
set_option maxRecDepth 100000 in
set_option maxHeartbeats 1000000 in
theorem step_none (K0 : Nat → Prop) (s : ByteArray) (a k b : Int) (lv : Value) (g : Nat) (v : Value) (ps : List Pr) (w : World) (hW : Wv K0 g w v ps) :
    Calls Tryz.prog 24 #[.pointer (some ⟨g, 0, none⟩), .agg #[.int .i64 4, .int .i64 k, .string s, .int .i64 a, .int .i64 b, lv]] w fun en w' => en = .returned (.bool true) ∧ StepOut K0 g v ps w w' := by
  have HW := hide hW
  clear hW
  go_enter Tryz.func24, Tryz.ntmps24
  go_wp2_with fail
  refine (load_nil _).mono ?_
  rintro en w1 ⟨rfl, G1⟩
  have HB1 : Hid (Below w.heap.size w w1) := below_on (Below.alloc0 _) G1 (Nat.le_refl _)
  clear G1
  go_wp2_with fail
  refine (num_any 1 _ (by omega) (by omega)).mono ?_
  rintro en w2 ⟨rfl, hw⟩
  replace hw := hw.symm
  subst hw
  go_wp2_with fail
  go_ret
  exact ⟨rfl, StepOut.below (unhide HW) (unhide HB1)⟩
end Go.Proofs.YthlincikgdblfaaGreat
