import Derived.Test.YthlincikgdblfaaGreatAl04
import Derived.Deep.DeepAppendWide
namespace Go.Proofs.YthlincikgdblfaaGreat
set_option linter.unusedVariables false
open Go.RowKit

theorem Av.drewN {g : Nat} {w : World} {v : Value} {ps : List Pr} {lv mv : Value} {ls : List (Value × Int)} (h : Av g w v ps lv mv ls) (j : Nat) : Av g (w.drewN j) v ps lv mv ls := by
  have G : w.grownBy (w.drewN j) none := grown_drewN (World.grownBy.refl _ _) j
  have hk : ∀ K, Keeps K w (w.drewN j) := fun K => Keeps.grown G (fun _ e => by cases e)
  exact ⟨(h.wv.below (Below.of_grown G)).1, h.c1, h.c2, h.f1, h.f2, ownsRow_keeps h.lrow (hk (fun _ => False)) (fun _ _ h => h), ownsRow_keeps h.mrow (hk (fun _ => False)) (fun _ _ h => h), fun x hx => (h.each x hx).step (hk _) (fun _ _ h => h), h.apv, h.apl⟩
/-- One of the lists, and its mark. -/
theorem Av.list {g : Nat} {w : World} {v : Value} {ps : List Pr} {lv mv : Value} {ls : List (Value × Int)} (h : Av g w v ps lv mv ls) : ∃ la n lc ma mc, lv = .slice la n lc ∧ mv = .slice ma n mc ∧ n = ls.length ∧ (n = 0 ∨ ∃ gl gm, la = some ⟨gl, 0, none⟩ ∧ ma = some ⟨gm, 0, none⟩ ∧ ∀ i (hi : i < ls.length), w.cell? ⟨gl, i, none⟩ = some (ls[i]'hi).1 ∧ w.cell? ⟨gm, i, none⟩ = some (.int .i64 (ls[i]'hi).2)) := by
  have hml : (ls.map (·.2)).length = ls.length := List.length_map ..
  rcases h.lrow.2 with ⟨h0, h1⟩ | ⟨gl, lc, cur, hv, _⟩
  · rcases h.mrow.form with ⟨h2, h3⟩ | ⟨gm, mc, h2, _, _, _⟩
    · exact ⟨none, 0, 0, none, 0, h0, h2, h1.symm, Or.inl rfl⟩
    · exact ⟨none, 0, 0, some ⟨gm, 0, none⟩, mc, h0, by rw [h2, hml, h1], h1.symm, Or.inl rfl⟩
  · rcases h.mrow.form with ⟨h2, h3⟩ | ⟨gm, mc, h2, _, _, _⟩
    · have hz : ls.length = 0 := by rw [← hml, h3]; rfl
      exact ⟨some ⟨gl, 0, none⟩, 0, lc, none, 0, by rw [hv, hz], h2, hz.symm, Or.inl rfl⟩
    · refine ⟨some ⟨gl, 0, none⟩, ls.length, lc, some ⟨gm, 0, none⟩, mc, hv, by rw [h2, hml], rfl, Or.inr ⟨gl, gm, rfl, rfl, fun i hi => ⟨?_, ?_⟩⟩⟩
      · have := World.ownsRow.cells h.lrow (g := gl) (by rw [hv]; rfl) i (ls[i]'hi).1 (by simp [hi])
        rw [addr_add] at this
        exact this
      · have hm2 := h.mrow
        rw [h2] at hm2
        have := IsZ.cell hm2 i (by rw [hml]; exact hi)
        rw [this]
        simp
def LkV (w : World) (n : Nat) (i : Value) (wr : World) : Prop := ∃ k j : Nat, k ≤ n ∧ i = .int .i64 (k : Int) ∧ Hid (wr = w.drewN j)
theorem LkV.mk {w : World} {n : Nat} {i : Value} {wr : World} (k j : Nat) (h1 : k ≤ n) (h2 : i = .int .i64 (k : Int)) (h3 : wr = w.drewN j) : LkV w n i wr := ⟨k, j, h1, h2, h3⟩
set_option maxRecDepth 100000 in
set_option maxHeartbeats 2000000 in
/-- Every list reads as its owner wrote it. -/
theorem looks_all (g : Nat) (w : World) (v : Value) (ps : List Pr) (lv mv : Value) (ls : List (Value × Int)) (h : Av g w v ps lv mv ls) (hls : ls.length ≤ 4611686018427387904) :
    Calls Tryz.prog 25 #[.pointer (some ⟨g, 0, none⟩)] w fun e w' => e = .returned (.bool true) ∧ ∃ j, w' = w.drewN j := by
  obtain ⟨la, n, lc, ma, mc, rfl, rfl, hn, hc⟩ := h.list
  have HA := hide h
  have HC := hide hc
  have HN := hide hn
  have hnb : n ≤ 4611686018427387904 := by omega
  clear h hc hn
  go_enter Tryz.func25, Tryz.ntmps25
  go_wp2_with fail
  go_loopw [3, 4] (fun iv kv wr => LkV w n iv wr) (fun iv _ _ => n - (intOf iv).toNat)
  case atStart => exact LkV.mk 0 0 (by omega) rfl rfl
  case round =>
    obtain ⟨i, j, hi, rfl, HW⟩ := hrel
    have c1 : wr.cell? ⟨g, 1, none⟩ = some (.slice la n lc) := by rw [unhide HW]; exact (unhide HA).c1
    have c2 : wr.cell? ⟨g, 2, none⟩ = some (.slice ma n mc) := by rw [unhide HW]; exact (unhide HA).c2
    by_cases hlt : i < n
    · rcases unhide HC with h0 | ⟨gl, gm, rfl, rfl, hcell⟩
      · omega
      have hil : i < ls.length := by have := unhide HN; omega
      have hx := (unhide HA).each _ (List.getElem_mem hil) w (Keeps.refl _ _)
      obtain ⟨q1, q2⟩ := hcell i hil
      generalize ls[i]'hil = x at hx q1 q2
      obtain ⟨xv, xm⟩ := x
      obtain ⟨a, m, c, hxe, hmb, hxc⟩ := hx
      simp only at hxe q1 q2 hxc
      subst hxe
      have q1r : wr.cell? ⟨gl, i, none⟩ = some (.slice a m c) := by rw [unhide HW]; exact q1
      have q2r : wr.cell? ⟨gm, i, none⟩ = some (.int .i64 xm) := by rw [unhide HW]; exact q2
      have HXC := hide hxc
      have Q1 := hide q1
      have Q2 := hide q2
      clear hcell q1 q2 hxc
      go_wp2_with fail
      clear c1 c2 q1r q2r
      go_loopw [4] (fun kv wr => LkV w m kv wr) (fun kv _ => m - (intOf kv).toNat)
      case atStart => exact LkV.mk 0 j (by omega) rfl (unhide HW)
      case round =>
        rename_i hrel
        obtain ⟨k, j2, hk, rfl, HW2⟩ := hrel
        have c1 : wr.cell? ⟨g, 1, none⟩ = some (.slice (some ⟨gl, 0, none⟩) n lc) := by rw [unhide HW2]; exact (unhide HA).c1
        have c2 : wr.cell? ⟨g, 2, none⟩ = some (.slice (some ⟨gm, 0, none⟩) n mc) := by rw [unhide HW2]; exact (unhide HA).c2
        have q1r : wr.cell? ⟨gl, i, none⟩ = some (.slice a m c) := by rw [unhide HW2]; exact unhide Q1
        have q2r : wr.cell? ⟨gm, i, none⟩ = some (.int .i64 xm) := by rw [unhide HW2]; exact unhide Q2
        by_cases hkm : k < m
        · rcases unhide HXC with h0 | ⟨b, off, rfl, hcl⟩
          · omega
          have q3 : wr.cell? ⟨b, off + k, none⟩ = some (.int .i64 xm) := by rw [unhide HW2]; exact hcl k hkm
          clear hcl
          go_wp2_with fail
          go_quiet (fail)
          go_wp2_with fail
          go_roundw
          case rel => exact LkV.mk (k + 1) (j2 + nq) (by omega) (by go_num) (by rw [unhide HW2]; exact World.drewN_drewN _ _ _)
          case measure => first | (simp [intOf]; done) | (simp [intOf]; omega)
        · go_wp2_with fail
          go_roundw
          case rel => exact LkV.mk (i + 1) j2 (by omega) (by go_num) (unhide HW2)
          case measure => first | (simp [intOf]; done) | (simp [intOf]; omega)
    · go_wp2_with fail
      go_ret
      exact ⟨rfl, j, unhide HW⟩
end Go.Proofs.YthlincikgdblfaaGreat

namespace Go.Proofs.YthlincikgdblfaaGreat
set_option linter.unusedVariables false
open Go.RowKit

theorem Av.made {g : Nat} {w0 w' : World} {v : Value} {ps : List Pr} {lv mv lv' mv' : Value} {ls new : List (Value × Int)} (h : Av g w0 v ps lv mv ls) (H : Keeps (Kof (KL lv mv) g v) w0 w') (hv : ∀ i, v.ownBlock = some i → w'.heap[i]? = w0.heap[i]?)
    (k0 : w'.cell? ⟨g, 0, none⟩ = w0.cell? ⟨g, 0, none⟩) (kf : ∀ j, w'.frozen? ⟨g, j, none⟩ = w0.frozen? ⟨g, j, none⟩) (c1 : w'.cell? ⟨g, 1, none⟩ = some lv') (c2 : w'.cell? ⟨g, 2, none⟩ = some mv')
    (lrow : w'.ownsRow (g + 1) 25 1 lv' (ls ++ new).length ((ls ++ new).map (·.1))) (mrow : IsZ w' (g + 1) mv' ((ls ++ new).map (·.2)))
    (hl : ∀ i, lv'.ownBlock = some i → lv.ownBlock = some i ∨ w0.heap.size ≤ i) (hm : ∀ i, mv'.ownBlock = some i → mv.ownBlock = some i ∨ w0.heap.size ≤ i) (hap : ∀ i, lv'.ownBlock = some i → mv'.ownBlock ≠ some i)
    (hnew : ∀ x ∈ new, SureL (Kof (KL lv' mv') g v) w' x) : Av g w' v ps lv' mv' (ls ++ new) := by
  have hK : ∀ i, i < w0.heap.size → Kof (KL lv' mv') g v i → Kof (KL lv mv) g v i := by
    rintro i hi (h1 | h1 | h1 | h1)
    · exact Or.inl h1
    · exact Or.inr (Or.inl h1)
    · rcases hl i h1 with h2 | h2
      · exact Or.inr (Or.inr (Or.inl h2))
      · omega
    · rcases hm i h1 with h2 | h2
      · exact Or.inr (Or.inr (Or.inr h2))
      · omega
  refine ⟨⟨k0.trans h.wv.c0, (kf 0).trans h.wv.f0, ?_, fun q hq => (h.wv.ok q hq).step H hK, ?_⟩, c1, c2, (kf 1).trans h.f1, (kf 2).trans h.f2, lrow, mrow, ?_, ?_, hap⟩
  · obtain ⟨h1, h2⟩ := h.wv.row
    refine ⟨h1, ?_⟩
    rcases h2 with h2 | ⟨gi, cap, cur, hvv, hB, hg, hr⟩
    · exact Or.inl h2
    · exact Or.inr ⟨gi, cap, cur, hvv, hB, by rw [hv gi (by rw [hvv]; rfl)]; exact hg, hr⟩
  · rintro i (h1 | h1)
    · exact (World.ownsRow.lt lrow i h1).2
    · exact (World.ownsRow.lt mrow i h1).2
  · intro x hx
    rcases List.mem_append.1 hx with h1 | h1
    · exact (h.each x h1).step H hK
    · exact hnew x h1
  · rintro i e (h1 | h1)
    · rcases hl i h1 with h2 | h2
      · exact h.apv i e (Or.inl h2)
      · have := (h.wv.row_lt i e).2; omega
    · rcases hm i h1 with h2 | h2
      · exact h.apv i e (Or.inr h2)
      · have := (h.wv.row_lt i e).2; omega
/-- APPEND OF THE OWNER's MARKS onto a list with no room. -/
theorem wp_appF (w : World) {ops : Array Oper} {rest : List Oper} {o : Oper} {a : Act} {Q : Exit → Act → World → Prop} (hgd : o.guard = none) (s x : Operand)
    (ho : o.op = .call { callee := .builtin .append, args := #[s, x], argTypes := #[25, 25] })
    (ao : Option Addr) (n : Nat) (m : Int) (r : Nat) (hs : a.eval s = .slice ao n n) (hnone : ao = none → n = 0) (holds : ∀ b, ao = some b → b.block < w.heap.size ∧ ∀ j, j < n → w.cell? (b.add j) = some (.int .i64 m))
    (hx : a.eval x = .slice (some ⟨w.heap.size, 0, none⟩) r r) (hr : 0 < r) (hl : n + r < 1000000)
    (h : ∀ v' w', IsZ w' (w.heap.size + 1) v' (List.replicate (n + r) m) → w.grownBy w' none → wpList Tryz.prog ops Q rest (a.put o.dst v') w') : wpList Tryz.prog ops Q (o :: rest) a (w.alloc (.cells (List.replicate r (Value.int .i64 m)).toArray 3)) := by
  obtain ⟨i0, hi, hz0, hz1, hz2⟩ := info_parts infoI
  refine wpList_append_grows _ hgd s x 25 ho 3 i0 (.int .i64 0) 1 8 Tryz.underlying25 hi hz0 hz1 hz2 rfl (by decide) ao n n (List.replicate n (.int .i64 m)) hs (fun e => ⟨hnone e, hnone e⟩) (by simp) ?_ ⟨w.heap.size, 0, none⟩ r r (List.replicate r (.int .i64 m)) hx (by simp) (cells_many_new w _ _) ?_ (by omega) (by unfold maxLen; omega) (by omega) ?_
  · intro b hb j u hu
    obtain ⟨h1, h2⟩ := holds b hb
    have hj : j < n := by have := (List.getElem?_eq_some_iff.1 hu).1; simpa using this
    rw [List.getElem?_replicate, if_pos hj] at hu
    rw [← hu, ← h2 j hj]
    refine World.cell?_alloc_lt _ _ _ ?_
    unfold Addr.add
    split <;> exact h1
  · intro u hu
    have := (List.eq_of_mem_replicate hu)
    rw [this]
    rfl
  · intro v' w' h1 h2
    refine h v' w' ?_ (grown_trans (World.grownBy_alloc w _ none) h2 (Or.inl rfl))
    unfold IsZ
    rw [List.length_replicate, List.map_replicate, ← List.replicate_append_replicate]
    simpa using h1
theorem infoInts : (Tryz.prog.info? 25).map (fun i => (i.zero, i.size, i.bytes)) = some (some (.slice none 0 0), 1, 24) := by kernel_rfl
/-- In which block an append of lists leaves them. -/
theorem appLL_block (w : World) (ty : TypeId) (B : Nat) (v : Value) (n : Nat) (xs : List Value) (hown : w.ownsRow B 25 1 v n xs) (ad : Addr) (m c : Nat) (news : List Value) (hl : news.length = m) (hm : 0 < m) (hnews : ∀ j u, news[j]? = some u → w.cell? (ad.add j) = some u) (h1c : ∀ u ∈ news, u.oneCell' = true)
    (hb : ((n + m) + (n + m) / 4 + 192) * 24 ≤ 281474976710656) {v' : Value} {w' : World} (hr : (Builtin.append_ #[53, 53] ty #[v, .slice (some ad) m c]).run Tryz.prog w = .ok v' w') : v'.ownBlock = v.ownBlock ∨ v'.ownBlock = some w.heap.size := by
  obtain ⟨i0, hi, hz0, hz1, hz2⟩ := info_parts infoInts
  have hl1 : news.length = m * i0.size := by rw [hz1]; omega
  rcases hown.2 with ⟨rfl, rfl⟩ | ⟨g, cap, cur, rfl, hbg, hg, hnc, hcm, hcs, htake⟩
  · have h := run_append_nil (P := Tryz.prog) w 53 ty 25 i0 _ Tryz.underlying53 hi hz0 ad m c news hl1 hnews (by omega) (by omega) (by rw [hz2]; omega)
    rw [h] at hr
    cases hr
    exact Or.inr rfl
  · by_cases hroom : n + m ≤ cap
    · have h := run_append_room (P := Tryz.prog) w 53 ty 25 i0 Tryz.underlying53 hi g n cap cur hg ad m c news hl1 hnews h1c hroom (by rw [hz1]; omega)
      rw [h] at hr
      cases hr
      exact Or.inl rfl
    · have h := run_append_grow (P := Tryz.prog) w 53 ty 25 i0 _ Tryz.underlying53 hi hz0 ⟨g, 0, none⟩ n cap xs (by rw [hz1]; exact hown.1) (World.ownsRow.cells hown (g := g) rfl) ad m c news hl1 hnews (by omega) (by omega) (by rw [hz2]; exact growslice_fits_wide (by omega) hb)
      rw [h] at hr
      cases hr
      exact Or.inr rfl
/-- APPEND OF LISTS. -/
theorem wp_appLL (w : World) {ops : Array Oper} {rest : List Oper} {o : Oper} {a : Act} {Q : Exit → Act → World → Prop} (hgd : o.guard = none) (s x : Operand)
    (ho : o.op = .call { callee := .builtin .append, args := #[s, x], argTypes := #[53, 53] })
    (B : Nat) (v : Value) (xs news : List Value) (hs : a.eval s = v) (hown : w.ownsRow B 25 1 v xs.length xs) (hx : a.eval x = .slice (some ⟨w.heap.size, 0, none⟩) news.length news.length) (h1c : ∀ u ∈ news, u.oneCell' = true) (hn0 : 0 < news.length)
    (hl : ((xs.length + news.length) + (xs.length + news.length) / 4 + 192) * 24 ≤ 281474976710656) (hB : B ≤ w.heap.size)
    (h : ∀ v' w', w'.ownsRow B 25 1 v' (xs ++ news).length (xs ++ news) → (w.alloc (.cells news.toArray 25)).grownBy w' v.ownBlock → (v'.ownBlock = v.ownBlock ∨ v'.ownBlock = some (w.heap.size + 1)) → wpList Tryz.prog ops Q rest (a.put o.dst v') w') : wpList Tryz.prog ops Q (o :: rest) a (w.alloc (.cells news.toArray 25)) := by
  obtain ⟨i0, hi, hz0, hz1, hz2⟩ := info_parts infoInts
  refine wpList_plain hgd fun K hK => ?_
  obtain ⟨v', w', hr, k1, k2, _⟩ := run_append_own_wide (P := Tryz.prog) (w.alloc (.cells news.toArray 25)) B 53 o.type 25 i0 _ 1 24 Tryz.underlying53 hi hz0 hz1 hz2 rfl (by decide) v xs.length xs (World.ownsRow.alloc hown _) ⟨w.heap.size, 0, none⟩ news.length news.length news (by omega) (cells_many_new w _ _) h1c (by unfold maxLen; omega) hl (by simp; omega)
  have k4 := appLL_block (w.alloc (.cells news.toArray 25)) o.type B v xs.length xs (World.ownsRow.alloc hown _) ⟨w.heap.size, 0, none⟩ news.length news.length news rfl hn0 (cells_many_new w _ _) h1c hl hr
  unfold Oper.wp execOp
  simp only [ho, resolve, invoke, builtin, Sem.run_bind, Sem.run_pure, Result.andThen_ok, List.map_toArray, List.map_cons, List.map_nil, hs, hx, hr]
  refine hK _ _ (h v' w' ?_ k2 (by simpa using k4))
  rw [List.length_append]
  exact k1
theorem wp_appM (w : World) {ops : Array Oper} {rest : List Oper} {o : Oper} {a : Act} {Q : Exit → Act → World → Prop} (hgd : o.guard = none) (s x : Operand)
    (ho : o.op = .call { callee := .builtin .append, args := #[s, x], argTypes := #[25, 25] })
    (B : Nat) (v : Value) (xs news : List Int) (hs : a.eval s = v) (hown : IsZ w B v xs) (hx : a.eval x = .slice (some ⟨w.heap.size, 0, none⟩) news.length news.length)
    (hl : (xs.length + news.length) * 8 ≤ 140737488355328) (hB : B ≤ w.heap.size)
    (h : ∀ v' w', IsZ w' B v' (xs ++ news) → (w.alloc (.cells (news.map (Value.int .i64)).toArray 3)).grownBy w' v.ownBlock → (v'.ownBlock = v.ownBlock ∨ v'.ownBlock = some (w.heap.size + 1)) → wpList Tryz.prog ops Q rest (a.put o.dst v') w') : wpList Tryz.prog ops Q (o :: rest) a (w.alloc (.cells (news.map (Value.int .i64)).toArray 3)) := by
  obtain ⟨i0, hi, hz0, hz1, hz2⟩ := info_parts infoI
  refine wpList_append_own_at _ hgd s x 25 ho B 3 i0 (.int .i64 0) 1 8 Tryz.underlying25 hi hz0 hz1 hz2 rfl (by decide) v xs.length (xs.map (Value.int .i64)) hs (World.ownsRow.alloc hown _) ⟨w.heap.size, 0, none⟩ news.length news.length (news.map (Value.int .i64)) hx (by rw [List.length_map]; omega) (cells_many_new w _ _) (intZ_one news) (by unfold maxLen; omega) hl (by simp; omega) ?_
  intro v' w' k1 k2 k3 k4
  refine h v' w' ?_ k2 (by simpa using k4)
  unfold IsZ
  rw [List.map_append, List.length_append]
  exact k1
end Go.Proofs.YthlincikgdblfaaGreat

namespace Go.Proofs.YthlincikgdblfaaGreat
set_option linter.unusedVariables false
open Go.RowKit

/-- A list of whole numbers that are all the same, seen from later worlds. -/
theorem sure_of {K : Nat → Prop} {w w7 : World} {B : Nat} {x : Value} {n : Nat} {M : Int} (h : IsZ w B x (List.replicate n M)) (hn : n ≤ 4611686018427387904) (hb : ∀ b, B ≤ b → b < w.heap.size → ¬ K b ∧ w7.heap[b]? = w.heap[b]?) (hs : w.heap.size ≤ w7.heap.size) : SureL K w7 (x, M) := by
  intro w'' H
  rcases h.form with ⟨rfl, h0⟩ | ⟨gx, cap, rfl, h1, h2, h3⟩
  · exact ⟨none, 0, 0, rfl, by omega, Or.inl rfl⟩
  · refine ⟨some ⟨gx, 0, none⟩, _, cap, rfl, by simpa using hn, Or.inr ⟨gx, 0, rfl, fun j hj => ?_⟩⟩
    obtain ⟨k1, k2⟩ := hb gx h1 h2
    have hj2 : j < (List.replicate n M).length := by simpa using hj
    have hc := IsZ.cell h j hj2
    rw [Nat.zero_add]
    refine H.cell k1 ((World.cell?_of_block k2).trans ?_)
    rw [hc]
    simp
/-- Behind k of the list's places. -/
def OwnV (w0 w : World) (ao : Option Addr) (n : Nat) (M : Int) (iv : Value) (wr : World) : Prop := ∃ k : Nat, k ≤ n ∧ iv = .int .i64 (k : Int) ∧ Below w0.heap.size w0 wr ∧ w.heap.size ≤ wr.heap.size ∧ ∀ b, ao = some b → ∃ gx cap N xs, b = ⟨gx, 0, none⟩ ∧ w0.heap.size ≤ gx ∧ wr.ownsRow w0.heap.size 3 1 (.slice (some ⟨gx, 0, none⟩) N cap) N xs ∧ n ≤ N ∧ ∀ j, j < k → xs[j]? = some (.int .i64 M)
theorem OwnV.mk {w0 w : World} {ao : Option Addr} {n : Nat} {M : Int} {iv : Value} {wr : World} (k : Nat) (h1 : k ≤ n) (h2 : iv = .int .i64 (k : Int)) (h3 : Below w0.heap.size w0 wr) (h4 : w.heap.size ≤ wr.heap.size) (h5 : ∀ b, ao = some b → ∃ gx cap N xs, b = ⟨gx, 0, none⟩ ∧ w0.heap.size ≤ gx ∧ wr.ownsRow w0.heap.size 3 1 (.slice (some ⟨gx, 0, none⟩) N cap) N xs ∧ n ≤ N ∧ ∀ j, j < k → xs[j]? = some (.int .i64 M)) : OwnV w0 w ao n M iv wr := ⟨k, h1, h2, h3, h4, h5⟩
set_option maxRecDepth 100000 in
set_option maxHeartbeats 4000000 in
theorem own_any (g : Nat) (w0 : World) (v : Value) (ps : List Pr) (lv mv : Value) (ls : List (Value × Int)) (ao : Option Addr) (n : Nat) (w : World) (hA : Av g w0 v ps lv mv ls) (HB : Below w0.heap.size w0 w) (hnone : ao = none → n = 0)
    (hrow : ∀ b, ao = some b → ∃ gx cap full, b = ⟨gx, 0, none⟩ ∧ w0.heap.size ≤ gx ∧ Is w w0.heap.size (.slice (some ⟨gx, 0, none⟩) full.length cap) full ∧ n ≤ full.length) (hn : n ≤ 1000) (hls : ls.length ≤ 7900000000000) :
    Calls Tryz.prog 46 #[.pointer (some ⟨g, 0, none⟩), .slice ao n n] w fun e w' => e = .returned (.tuple #[]) ∧ ∃ lv' mv' ls', Av g w' v ps lv' mv' ls' ∧ ls'.length = ls.length + 4 ∧ Below g w w' := by
  obtain ⟨la, nm, lc, ma, mc, hlv, hmv, hnm, _⟩ := hA.list
  have hgl := hA.wv.lt
  have c2 := (HB.cell (p := ⟨g, 2, none⟩) hgl).trans hA.c2
  rw [hmv] at c2
  have HA := hide hA
  have HHB := hide HB
  have HNone := hide hnone
  have HLV := hide hlv
  have HMV := hide hmv
  have HNM := hide hnm
  have hnmb : nm ≤ 7900000000000 := by omega
  have P0 : ∀ M, OwnV w0 w ao n M (.int .i64 0) w := by
    intro M
    refine OwnV.mk 0 (by omega) rfl HB (Nat.le_refl _) (fun b hb => ?_)
    obtain ⟨gx, cap, full, h1, h2, h3, h4⟩ := hrow b hb
    exact ⟨gx, cap, full.length, byI full, h1, h2, h3, h4, fun j hj => absurd hj (Nat.not_lt_zero _)⟩
  have HP0 := hide P0
  clear hA HB hnone hrow hlv hmv hnm P0
  go_enter Tryz.func46, Tryz.ntmps46
  go_wp2_with fail
  generalize hM : (-1 : Int) - (nm : Int) = M
  have hMb : -9223372036854775808 ≤ M ∧ M ≤ 9223372036854775807 := by omega
  clear hM
  go_loopw [5] (fun iv wr => OwnV w0 w ao n M iv wr) (fun iv _ => n - (intOf iv).toNat)
  case atStart => exact unhide HP0 M
  case round =>
    obtain ⟨k, hk, rfl, HBr, hsz, hro⟩ := hrel
    by_cases hlt : k < n
    · cases ao with
      | none => have := unhide HNone rfl; omega
      | some b =>
        obtain ⟨gx, cap, N, xs, rfl, hgx, R, hnN, hxs⟩ := hro b rfl
        have hxl : xs.length = N := by have := R.1; omega
        have hcell := World.ownsRow.cells R (g := gx) rfl k (xs[k]'(by omega)) (List.getElem?_eq_getElem (by omega))
        rw [addr_add] at hcell
        have hf := World.ownsRow.frozenAt R k
        have HST := hide (World.ownsRow.stored R k (.int .i64 M))
        have HXS := hide hxs
        have HBB := hide HBr
        generalize xs[k]'(by omega) = old at hcell
        clear R hxs hro HBr
        go_wp2_with fail
        go_roundw
        case rel =>
          obtain ⟨h1, h2⟩ := unhide HST
          refine OwnV.mk (k + 1) (by omega) (by go_num) ((unhide HBB).grown h2 (unhide HBB).size (fun j e => by injection e; omega)) (by have := h2.size; omega) (fun b hb => ?_)
          cases hb
          refine ⟨gx, cap, N, _, rfl, hgx, h1, hnN, fun j hj => ?_⟩
          rw [List.getElem?_set]
          by_cases e : k = j
          · rw [if_pos e, if_pos (by omega)]
          · rw [if_neg e]
            exact unhide HXS j (by omega)
        case measure => first | (simp [intOf]; done) | (simp [intOf]; omega)
    · have ek : k = n := by omega
      subst ek
      have hold : ∀ b, ao = some b → b.block < wr.heap.size ∧ ∀ j, j < k → wr.cell? (b.add j) = some (.int .i64 M) := by
        intro b hb
        obtain ⟨gx, cap, N, xs, rfl, hgx, R, hnN, hxs⟩ := hro b hb
        exact ⟨(World.ownsRow.lt R gx rfl).2, fun j hj => World.ownsRow.cells R (g := gx) rfl j _ (hxs j hj)⟩
      have HO := hide hold
      have hgxx : ∀ b, ao = some b → ∃ gx, b = ⟨gx, 0, none⟩ ∧ w0.heap.size ≤ gx := fun b hb => by
        obtain ⟨gx, cap, N, xs, h1, h2, _⟩ := hro b hb
        exact ⟨gx, h1, h2⟩
      have HGX := hide hgxx
      have HBB := hide HBr
      clear hro HBr hold hgxx HP0
      go_wp2_with (at_builtin; refine wp_appF wr rfl (.tmp 25) (.tmp 27) rfl ao k M 1 rfl (unhide HNone) (unhide HO) rfl (by decide) (by omega) ?_)
      intro v1 w1 I1 G1
      obtain ⟨x1, n1, d1, rfl, hn1⟩ := I1.shape
      have HI1 := hide I1
      have HG1 := hide G1
      have hs1 := G1.size
      have HO1 : Hid (∀ b, ao = some b → b.block < w1.heap.size ∧ ∀ j, j < k → w1.cell? (b.add j) = some (.int .i64 M)) := fun b hb => ⟨Nat.lt_of_lt_of_le (unhide HO b hb).1 hs1, fun j hj => cell_grown6 ((unhide HO b hb).2 j hj) G1⟩
      clear I1 G1 hn1
      go_wp2_with (at_builtin; refine wp_appF w1 rfl (.tmp 29) (.tmp 32) rfl ao k M 2 rfl (unhide HNone) (unhide HO1) rfl (by decide) (by omega) ?_)
      intro v2 w2 I2 G2
      obtain ⟨x2, n2, d2, rfl, hn2⟩ := I2.shape
      have HI2 := hide I2
      have HG2 := hide G2
      have hs2 := G2.size
      have HO2 : Hid (∀ b, ao = some b → b.block < w2.heap.size ∧ ∀ j, j < k → w2.cell? (b.add j) = some (.int .i64 M)) := fun b hb => ⟨Nat.lt_of_lt_of_le (unhide HO1 b hb).1 hs2, fun j hj => cell_grown6 ((unhide HO1 b hb).2 j hj) G2⟩
      clear I2 G2 hn2
      go_wp2_with (at_builtin; refine wp_appF w2 rfl (.tmp 34) (.tmp 38) rfl ao k M 3 rfl (unhide HNone) (unhide HO2) rfl (by decide) (by omega) ?_)
      intro v3 w3 I3 G3
      obtain ⟨x3, n3, d3, rfl, hn3⟩ := I3.shape
      have HI3 := hide I3
      have HG3 := hide G3
      have hs3 := G3.size
      have HO3 : Hid (∀ b, ao = some b → b.block < w3.heap.size ∧ ∀ j, j < k → w3.cell? (b.add j) = some (.int .i64 M)) := fun b hb => ⟨Nat.lt_of_lt_of_le (unhide HO2 b hb).1 hs3, fun j hj => cell_grown6 ((unhide HO2 b hb).2 j hj) G3⟩
      clear I3 G3 hn3
      have G13 := grown_trans (unhide HG1) (grown_trans (unhide HG2) (unhide HG3) (Or.inl rfl)) (Or.inl rfl)
      have B3 : Below w0.heap.size w0 w3 := below_on (unhide HBB) G13 (Nat.le_refl _)
      have h := unhide HA
      have c1 := (B3.cell (p := ⟨g, 1, none⟩) hgl).trans h.c1
      obtain ⟨lx, hlx⟩ : ∃ lx : List Value, lx = ls.map (fun x => x.1) := ⟨_, rfl⟩
      obtain ⟨mx, hmx⟩ : ∃ mx : List Int, mx = ls.map (fun x => x.2) := ⟨_, rfl⟩
      have hlxl : lx.length = ls.length := by rw [hlx, List.length_map]
      have hmxl : mx.length = ls.length := by rw [hmx, List.length_map]
      have lrow3 : w3.ownsRow (g + 1) 25 1 lv lx.length lx := by
        rw [hlxl, hlx]
        exact ownsRow_below h.lrow B3 (fun i e => (World.ownsRow.lt h.lrow i e).2)
      have hlob : ∀ i, lv.ownBlock = some i → g + 1 ≤ i ∧ i < w0.heap.size := fun i e => World.ownsRow.lt h.lrow i e
      have hmob : ∀ i, mv.ownBlock = some i → g + 1 ≤ i ∧ i < w0.heap.size := fun i e => World.ownsRow.lt h.mrow i e
      rw [unhide HLV] at c1 lrow3
      have HLR := hide lrow3
      have hg3 : g + 1 ≤ w3.heap.size := by have := B3.size; omega
      have hll : lx.length ≤ 7900000000000 := by omega
      have HB3 := hide B3
      have HLL := hide hll
      have HLX := hide (And.intro hlx hmx)
      have HLOB := hide hlob
      have HMOB := hide hmob
      have HML := hide (And.intro hlxl hmxl)
      clear h lrow3 B3 G13 hll hlx hmx hlob hmob hlxl hmxl
      go_wp2_with (at_builtin; refine wp_appLL w3 rfl (.tmp 44) (.tmp 49) rfl (g + 1) (.slice la nm lc) lx [.slice ao k k, .slice x1 n1 d1, .slice x2 n2 d2, .slice x3 n3 d3] rfl (unhide HLR) rfl ?h1 (by simp) ?h2 hg3 ?_)
      case h1 => intro u hu; simp at hu; rcases hu with rfl | rfl | rfl | rfl <;> rfl
      case h2 => have := unhide HLL; simp only [List.length_cons, List.length_nil]; omega
      intro v4 w4 R4 G4 hob4
      rw [← unhide HLV] at G4 hob4
      have h := unhide HA
      have hneg : lv.ownBlock ≠ some g := fun e => by have := (unhide HLOB g e).1; omega
      have G3a : w3.grownBy (w3.alloc (.cells #[.slice ao k k, .slice x1 n1 d1, .slice x2 n2 d2, .slice x3 n3 d3] 25)) none := World.grownBy_alloc w3 _ none
      have hga : g < (w3.alloc (.cells #[.slice ao k k, .slice x1 n1 d1, .slice x2 n2 d2, .slice x3 n3 d3] 25)).heap.size := Nat.lt_of_lt_of_le hg3 G3a.size
      have cg4 : ∀ j, w4.cell? ⟨g, j, none⟩ = w0.cell? ⟨g, j, none⟩ := fun j => (grown_cell G4 hga hneg j).trans ((grown_cell G3a hg3 (by simp) j).trans ((unhide HB3).cell (p := ⟨g, j, none⟩) hgl))
      have fg4 : ∀ j, w4.frozen? ⟨g, j, none⟩ = w0.frozen? ⟨g, j, none⟩ := fun j => (grown_frozen G4 hga hneg j).trans ((grown_frozen G3a hg3 (by simp) j).trans ((unhide HB3).frozen (p := ⟨g, j, none⟩) hgl))
      have blk4 : ∀ i, i < w3.heap.size → lv.ownBlock ≠ some i → w4.heap[i]? = w3.heap[i]? := fun i hi hne => (G4.block i (Nat.lt_of_lt_of_le hi G3a.size) (fun e => hne e.symm)).trans (G3a.block i hi (by simp))
      have sz4 : w3.heap.size + 1 ≤ w4.heap.size := by have := G4.size; simp at this; omega
      have y1 := (cg4 1).trans h.c1
      rw [unhide HLV] at y1
      have z1 := (fg4 1).trans h.f1
      obtain ⟨x4, n4, d4, rfl⟩ := ownsRow_shape R4
      have HR4 := hide (And.intro R4 hob4)
      have HCG := hide (And.intro cg4 fg4)
      have HBK := hide blk4
      have Hg4 := hide (below_grown G3a (Nat.le_of_lt hg3) (fun j e => by cases e) |>.trans (below_grown (B := g) G4 (Nat.le_of_lt hga) (fun j e => by have := (unhide HLOB j e).1; omega)))
      clear h R4 G4 hob4 G3a cg4 fg4 blk4 HLR
      go_upto_region 9 with fail
      have hw5c1 : (w4.setCell ⟨g, 1, none⟩ (.slice x4 n4 d4)).cell? ⟨g, 1, none⟩ = some (.slice x4 n4 d4) := World.cell?_setCell_same _ _ _ y1
      have hw5c : ∀ j, j ≠ 1 → (w4.setCell ⟨g, 1, none⟩ (.slice x4 n4 d4)).cell? ⟨g, j, none⟩ = w0.cell? ⟨g, j, none⟩ := fun j hj => (World.cell?_setCell_other _ _ _ _ (by intro e; injection e with _ e2; exact hj e2.symm)).trans ((unhide HCG).1 j)
      have hw5f : ∀ j, (w4.setCell ⟨g, 1, none⟩ (.slice x4 n4 d4)).frozen? ⟨g, j, none⟩ = w0.frozen? ⟨g, j, none⟩ := fun j => (World.frozen?_setCell _ _ _ _).trans ((unhide HCG).2 j)
      have hw5b : ∀ i, i ≠ g → (w4.setCell ⟨g, 1, none⟩ (.slice x4 n4 d4)).heap[i]? = w4.heap[i]? := fun i hi => heap_setCell_other _ ⟨g, 1, none⟩ i _ hi
      have hw5s : (w4.setCell ⟨g, 1, none⟩ (.slice x4 n4 d4)).heap.size = w4.heap.size := by simp
      have hw5r := ownsRow_setCell_below (unhide HR4).1 (a := ⟨g, 1, none⟩) (by simp) (.slice x4 n4 d4)
      have hw5B := (unhide Hg4).trans (below_setCell w4 g g 1 (.slice x4 n4 d4) (Nat.le_refl _))
      generalize w4.setCell ⟨g, 1, none⟩ (.slice x4 n4 d4) = w5 at hw5c1 hw5c hw5f hw5b hw5s hw5r hw5B ⊢
      have h := unhide HA
      have blk5 : ∀ i, i < w3.heap.size → i ≠ g → lv.ownBlock ≠ some i → w5.heap[i]? = w3.heap[i]? := fun i hi hg hl => (hw5b i hg).trans (unhide HBK i hi hl)
      have mrow5 : IsZ w5 (g + 1) mv mx := by
        rw [(unhide HLX).2]
        refine ownsRow_keeps (K := fun i => i = g ∨ lv.ownBlock = some i) (w := w3) (ownsRow_below h.mrow (unhide HB3) (fun i e => (unhide HMOB i e).2)) ⟨by omega, fun i hi hK => blk5 i hi (fun e => hK (Or.inl e)) (fun e => hK (Or.inr e))⟩ ?_
        rintro i e (h1 | h1)
        · have := (unhide HMOB i e).1; omega
        · exact h.apl i h1 e
      have c25 := (hw5c 2 (by decide)).trans h.c2
      rw [unhide HMV] at mrow5 c25
      have HMR := hide mrow5
      have hg5 : g + 1 ≤ w5.heap.size := by omega
      have hml : mx.length ≤ 7900000000000 := by have := (unhide HML).2; omega
      have HMLL := hide hml
      have HW5 := hide (And.intro hw5c1 (And.intro hw5c (And.intro hw5f (And.intro blk5 (And.intro hw5r hw5B)))))
      have HS5 := hide hw5s
      clear h mrow5 hml hw5c1 hw5c hw5f hw5b hw5s hw5r hw5B blk5 y1 z1 c1 c2
      go_wp2_with (at_builtin; refine wp_appM w5 rfl (.tmp 57) (.tmp 62) rfl (g + 1) (.slice ma nm mc) mx [M, M, M, M] rfl (unhide HMR) rfl ?h3 hg5 ?_)
      case h3 => have := unhide HMLL; simp only [List.length_cons, List.length_nil]; omega
      intro v6 w6 R6 G6 hob6
      rw [← unhide HMV] at G6 hob6
      have h := unhide HA
      obtain ⟨hw5c1, hw5c, hw5f, blk5, hw5r, hw5B⟩ := unhide HW5
      have hnegm : mv.ownBlock ≠ some g := fun e => by have := (unhide HMOB g e).1; omega
      have G5a : w5.grownBy (w5.alloc (.cells #[.int .i64 M, .int .i64 M, .int .i64 M, .int .i64 M] 3)) none := World.grownBy_alloc w5 _ none
      have hga5 : g < (w5.alloc (.cells #[.int .i64 M, .int .i64 M, .int .i64 M, .int .i64 M] 3)).heap.size := Nat.lt_of_lt_of_le hg5 G5a.size
      have c6 : ∀ j, w6.cell? ⟨g, j, none⟩ = w5.cell? ⟨g, j, none⟩ := fun j => (grown_cell G6 hga5 hnegm j).trans (grown_cell G5a hg5 (by simp) j)
      have f6 : ∀ j, w6.frozen? ⟨g, j, none⟩ = w5.frozen? ⟨g, j, none⟩ := fun j => (grown_frozen G6 hga5 hnegm j).trans (grown_frozen G5a hg5 (by simp) j)
      have blk6 : ∀ i, i < w5.heap.size → mv.ownBlock ≠ some i → w6.heap[i]? = w5.heap[i]? := fun i hi hne => (G6.block i (Nat.lt_of_lt_of_le hi G5a.size) (fun e => hne e.symm)).trans (G5a.block i hi (by simp))
      have sz6 : w5.heap.size + 1 ≤ w6.heap.size := by have := G6.size; simp at this; omega
      have y2 := (c6 2).trans ((hw5c 2 (by decide)).trans h.c2)
      rw [unhide HMV] at y2
      have z2 := (f6 2).trans ((hw5f 2).trans h.f2)
      obtain ⟨x6, n6, d6, rfl⟩ := ownsRow_shape R6
      have hs5 := unhide HS5
      have hs03 := (unhide HB3).size
      have blk7 : ∀ i, i < w3.heap.size → i ≠ g → lv.ownBlock ≠ some i → mv.ownBlock ≠ some i → (w6.setCell ⟨g, 2, none⟩ (.slice x6 n6 d6)).heap[i]? = w3.heap[i]? := fun i hi hg hl hm => (heap_setCell_other _ ⟨g, 2, none⟩ i _ hg).trans ((blk6 i (by omega) hm).trans (blk5 i hi hg hl))
      have hl4 : ∀ i, (Value.slice x4 n4 d4).ownBlock = some i → lv.ownBlock = some i ∨ (i = w3.heap.size + 1 ∧ i < w5.heap.size) := by
        intro i e
        rcases (unhide HR4).2 with h1 | h1
        · exact Or.inl (h1.symm.trans e)
        · have h2 := (World.ownsRow.lt hw5r i e).2
          rw [h1] at e
          injection e with e
          exact Or.inr ⟨e.symm, h2⟩
      have hm6 : ∀ i, (Value.slice x6 n6 d6).ownBlock = some i → mv.ownBlock = some i ∨ i = w5.heap.size + 1 := by
        intro i e
        rcases hob6 with h1 | h1
        · exact Or.inl (h1.symm.trans e)
        · rw [h1] at e
          injection e with e
          exact Or.inr e.symm
      have hbok : ∀ b, w0.heap.size ≤ b → b < w3.heap.size → ¬ Kof (KL (.slice x4 n4 d4) (.slice x6 n6 d6)) g v b ∧ (w6.setCell ⟨g, 2, none⟩ (.slice x6 n6 d6)).heap[b]? = w3.heap[b]? := by
        intro b hb1 hb2
        refine ⟨?_, blk7 b hb2 (by omega) (fun e => by have := (unhide HLOB b e).2; omega) (fun e => by have := (unhide HMOB b e).2; omega)⟩
        rintro (h1 | h1 | h1 | h1)
        · omega
        · have := (h.wv.row_lt b h1).2; omega
        · rcases hl4 b h1 with h2 | h2
          · have := (unhide HLOB b h2).2; omega
          · omega
        · rcases hm6 b h1 with h2 | h2
          · have := (unhide HMOB b h2).2; omega
          · omega
      have sz7 : (w6.setCell ⟨g, 2, none⟩ (.slice x6 n6 d6)).heap.size = w6.heap.size := by simp
      have hr0 : w0.heap.size ≤ wr.heap.size := (unhide HBB).size
      have lrow7 : (w6.setCell ⟨g, 2, none⟩ (.slice x6 n6 d6)).ownsRow (g + 1) 25 1 (.slice x4 n4 d4) (lx.length + 4) (lx ++ [.slice ao k k, .slice x1 n1 d1, .slice x2 n2 d2, .slice x3 n3 d3]) := by
        refine ownsRow_setCell_below (ownsRow_keeps (K := fun i => mv.ownBlock = some i) hw5r ⟨by omega, fun i hi hK => blk6 i hi hK⟩ ?_) (by simp) _
        intro i e hK
        rcases hl4 i e with h2 | h2
        · exact h.apl i h2 hK
        · have := (unhide HMOB i hK).2; omega
      have mrow7 := ownsRow_setCell_below R6 (a := ⟨g, 2, none⟩) (by simp) (.slice x6 n6 d6)
      have hBel : Below g w0 (w6.setCell ⟨g, 2, none⟩ (.slice x6 n6 d6)) := ((unhide HB3).mono (Nat.le_of_lt hgl)).trans (hw5B.trans ((below_grown G5a (Nat.le_of_lt hg5) (fun j e => by cases e)).trans ((below_grown (B := g) G6 (Nat.le_of_lt hga5) (fun j e => by have := (unhide HMOB j e).1; omega)).trans (below_setCell w6 g g 2 _ (Nat.le_refl _)))))
      have FIN : Hid (∃ lv' mv' ls', Av g (w6.setCell ⟨g, 2, none⟩ (.slice x6 n6 d6)) v ps lv' mv' ls' ∧ ls'.length = ls.length + 4 ∧ Below g w (w6.setCell ⟨g, 2, none⟩ (.slice x6 n6 d6))) := by
        refine ⟨.slice x4 n4 d4, .slice x6 n6 d6, ls ++ [(.slice ao k k, M), (.slice x1 n1 d1, M), (.slice x2 n2 d2, M), (.slice x3 n3 d3, M)], ?_, by simp, ?_⟩
        · refine Av.made h ?_ ?_ ?_ ?_ ?_ ?_ ?_ ?_ ?_ ?_ ?_ ?_
          · refine ⟨by omega, fun i hi hK => ?_⟩
            refine (blk7 i (by omega) (fun e => hK (Or.inl e)) (fun e => hK (Or.inr (Or.inr (Or.inl e)))) (fun e => hK (Or.inr (Or.inr (Or.inr e))))).trans ((unhide HB3).block i hi)
          · intro i e
            have h1 := h.wv.row_lt i e
            exact (blk7 i (by omega) (by omega) (fun e2 => h.apv i e (Or.inl e2)) (fun e2 => h.apv i e (Or.inr e2))).trans ((unhide HB3).block i h1.2)
          · exact (World.cell?_setCell_other _ _ _ _ (by simp)).trans ((c6 0).trans (hw5c 0 (by decide)))
          · exact fun j => (World.frozen?_setCell _ _ _ _).trans ((f6 j).trans (hw5f j))
          · exact (World.cell?_setCell_other _ _ _ _ (by simp)).trans ((c6 1).trans hw5c1)
          · exact World.cell?_setCell_same _ _ _ y2
          · have e1 : (ls ++ [(Value.slice ao k k, M), (.slice x1 n1 d1, M), (.slice x2 n2 d2, M), (.slice x3 n3 d3, M)]).length = lx.length + 4 := by rw [(unhide HML).1]; simp
            have e2 : (ls ++ [(Value.slice ao k k, M), (.slice x1 n1 d1, M), (.slice x2 n2 d2, M), (.slice x3 n3 d3, M)]).map (fun x => x.1) = lx ++ [.slice ao k k, .slice x1 n1 d1, .slice x2 n2 d2, .slice x3 n3 d3] := by rw [(unhide HLX).1, List.map_append]; rfl
            rw [e1, e2]
            exact lrow7
          · have e2 : (ls ++ [(Value.slice ao k k, M), (.slice x1 n1 d1, M), (.slice x2 n2 d2, M), (.slice x3 n3 d3, M)]).map (fun x => x.2) = mx ++ [M, M, M, M] := by rw [(unhide HLX).2, List.map_append]; rfl
            rw [e2]
            exact mrow7
          · intro i e
            rcases hl4 i e with h1 | h1
            · exact Or.inl h1
            · exact Or.inr (by omega)
          · intro i e
            rcases hm6 i e with h1 | h1
            · exact Or.inl h1
            · exact Or.inr (by omega)
          · intro i e e2
            rcases hl4 i e with h1 | h1
            · rcases hm6 i e2 with h2 | h2
              · exact h.apl i h1 h2
              · have := (unhide HLOB i h1).2; omega
            · rcases hm6 i e2 with h2 | h2
              · have := (unhide HMOB i h2).2; omega
              · omega
          · intro x hx
            simp only [List.mem_cons, List.not_mem_nil, or_false] at hx
            rcases hx with rfl | rfl | rfl | rfl
            · intro w'' H
              refine ⟨ao, k, k, rfl, by omega, ?_⟩
              cases hao : ao with
              | none => exact Or.inl (unhide HNone hao)
              | some b =>
                obtain ⟨gx, rfl, hgx⟩ := unhide HGX b hao
                obtain ⟨o1, o2⟩ := unhide HO3 _ hao
                obtain ⟨k1, k2⟩ := hbok gx hgx o1
                refine Or.inr ⟨gx, 0, rfl, fun j hj => ?_⟩
                have o3 := o2 j hj
                rw [addr_add] at o3
                rw [Nat.zero_add]
                exact H.cell k1 ((World.cell?_of_block k2).trans o3)
            · exact sure_of (w := w3) (B := wr.heap.size + 1) (ownsRow_kept0 (unhide HI1) (grown_trans (unhide HG2) (unhide HG3) (Or.inl rfl))) (by omega) (fun b h1 h2 => hbok b (by omega) h2) (by omega)
            · exact sure_of (w := w3) (B := w1.heap.size + 1) (ownsRow_kept0 (unhide HI2) (unhide HG3)) (by omega) (fun b h1 h2 => hbok b (by omega) h2) (by omega)
            · exact sure_of (w := w3) (B := w2.heap.size + 1) (unhide HI3) (by omega) (fun b h1 h2 => hbok b (by omega) h2) (by omega)
        · have hb1 := (unhide HHB).mono (Nat.le_of_lt hgl)
          exact ⟨hBel.os.trans hb1.os.symm, hBel.tape.trans hb1.tape.symm, hBel.output.trans hb1.output.symm, by omega, fun i hi => (hBel.block i hi).trans (hb1.block i hi).symm⟩
      clear h hw5c1 hw5c hw5f blk5 hw5r hw5B G5a c6 f6 blk6 blk7 hl4 hm6 hbok lrow7 mrow7 hBel R6 G6 hob6 hs5 sz7 HW5 HS5 HMR
      go_wp2_with fail
      go_end0
      exact ⟨rfl, unhide FIN⟩
end Go.Proofs.YthlincikgdblfaaGreat
