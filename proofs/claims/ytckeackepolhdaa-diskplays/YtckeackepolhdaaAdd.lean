/- Own: a write is added to the reference's lists. No statement is proved here. -/
import Derived.Test.YtckeackepolhdaaRst
namespace Go.Proofs.Ytckeackepolhdaa
open Go.RowKit
set_option linter.unusedVariables false
set_option linter.unusedSimpArgs false

theorem info3a : ∃ i, Try.prog.info? 3 = some i ∧ i.size = 1 ∧ i.bytes = 8 ∧ i.zero = some (.int .i64 0) := ⟨_, rfl, rfl, rfl, rfl⟩
theorem info27a : ∃ i, Try.prog.info? 27 = some i ∧ i.size = 1 ∧ i.bytes = 24 ∧ i.zero = some (.slice none 0 0) := ⟨_, rfl, rfl, rfl, rfl⟩
theorem app_one (t e : TypeId) (i0 : TypeInfo) (z : Value) (bts : Nat) (ht : Try.prog.underlying t = some (.slice e)) (hi0 : Try.prog.info? e = some i0) (hz : i0.zero = some z) (hzs : z.cells.size = 1) (h2 : i0.size = 1) (h3 : i0.bytes = bts) (hbt : bts ≤ 100)
    (w : World) (v x : Value) (hx1 : x.oneCell' = true) (n : Nat) (xs : List Value) (hv : w.ownsRow 0 e 1 v n xs) (hL : n ≤ 100) :
    ∃ a c W, (Builtin.append_ #[t, t] t #[v, .slice (some ⟨w.heap.size, 0, none⟩) 1 1]).run Try.prog (w.alloc (.cells #[x] e)) = .ok (.slice a (n + 1) c) W ∧
      W.ownsRow 0 e 1 (.slice a (n + 1) c) (n + 1) (xs ++ [x]) ∧ Fresh w v (.slice a (n + 1) c) ∧ Turn (fun k => v.ownBlock = some k) w W := by
  have T1 : Turn (fun _ => False) w (w.alloc (.cells #[x] e)) := (Turn.refl _ w).alloc _
  have hv1 := T1.owns hv (fun _ _ => id)
  have hc : ∀ j u, [x][j]? = some u → (w.alloc (.cells #[x] e)).cell? ((⟨w.heap.size, 0, none⟩ : Addr).add j) = some u := fun j u hj => by
    rw [Addr.add_lit, Nat.zero_add, cell_of_row _ _ _ _ e (0, 0) (heap_alloc_new w _)]
    simpa using hj
  have hone : ∀ u ∈ [x], u.oneCell' = true := fun u hu => by
    obtain rfl : u = x := by simpa using hu
    exact hx1
  have hby : (n + 1) * bts ≤ 140737488355328 := by
    have : (n + 1) * bts ≤ 101 * 100 := Nat.mul_le_mul (by omega) hbt
    omega
  obtain ⟨v', W, hr, q1, q2, q3⟩ := run_append_own (P := Try.prog) (w.alloc (.cells #[x] e)) 0 t t e i0 _ 1 bts ht hi0 hz h2 h3 hzs (by decide) v n xs hv1 ⟨w.heap.size, 0, none⟩ 1 1 [x] rfl hc hone (by simp only [maxLen]; omega) hby (Nat.zero_le _)
  have q4 := run_append_where (P := Try.prog) (w.alloc (.cells #[x] e)) t t e i0 _ 1 bts ht hi0 hz h2 h3 hzs (by decide) 0 v n xs hv1 ⟨w.heap.size, 0, none⟩ 1 1 [x] rfl hc hone (by simp only [maxLen]; omega) hby v' W hr
  obtain ⟨a, c, rfl⟩ := own3_form q1
  exact ⟨a, c, W, hr, q1, (Fresh.refl _ _).trans T1.size q4, (T1.mono (fun _ _ h => h.elim)).grown q2 (fun k hk _ => hk)⟩

theorem getD_snoc_lt {α : Type} (l : List α) (x dflt : α) {j : Nat} (h : j < l.length) : (l ++ [x]).getD j dflt = l.getD j dflt := by
  simp [List.getD, List.getElem?_append_left h]
theorem getD_snoc_eq {α : Type} (l : List α) (x dflt : α) : (l ++ [x]).getD l.length dflt = x := by
  simp [List.getD]

/-- All that happens when a write is added. -/
theorem add_all {w0 w : World} {D k SB : Nat} {d : DiskM} {F R : Nat → Prop} {vs : List Value} {av bv : Value} {us : List Value} {sl : List (List Int)} {wl : List (Nat × List Int)} (h : RSt w0 w D k SB d F R vs av bv us sl wl)
    (p n : Nat) (hp : p < k) (hn : wl.length = n) (hn40 : n ≤ 40) (pv : Value) (ps : List Int) (hv : Src w0 pv ps) (hold : 0 < ps.length → ∀ q, pv.ownBlock = some q → q < w0.heap.size) (hl : ps.length ≤ 64) :
    ∃ a1 c1 w1 v1 w2 g c w3 a2 c2 w4 R',
      (Builtin.append_ #[28, 28] 28 #[av, .slice (some ⟨w.heap.size, 0, none⟩) 1 1]).run Try.prog (w.alloc (.cells #[.int .i64 (p : Int)] 3)) = .ok (.slice a1 (n + 1) c1) w1 ∧ Turn (fun _ => False) w0 w1 ∧ Turn (fun q => av.ownBlock = some q) w w1 ∧
      (Builtin.append_ #[27, 27] 27 #[.slice none 0 0, pv]).run Try.prog w1.drew = .ok v1 w2 ∧
      (Builtin.append_ #[27, 3] 27 #[v1, .int .i64 (64 - (ps.length : Int))]).run Try.prog w2 = .ok (.slice (some ⟨g, 0, none⟩) 64 c) w3 ∧
      (Builtin.append_ #[26, 26] 26 #[bv, .slice (some ⟨w3.heap.size, 0, none⟩) 1 1]).run Try.prog (w3.alloc (.cells #[.slice (some ⟨g, 0, none⟩) 64 c] 27)) = .ok (.slice a2 (n + 1) c2) w4 ∧
      RSt w0 w4 D k SB d F R' vs (.slice a1 (n + 1) c1) (.slice a2 (n + 1) c2) (us ++ [.slice (some ⟨g, 0, none⟩) 64 c]) sl (wl ++ [(p, pad64 ps)]) ∧ Turn (fun _ => False) w1.drew w2 ∧ Turn (fun _ => False) w1.drew w3 ∧ Turn (fun q => bv.ownBlock = some q) w3 w4 := by
  have hsz := h.turn.size
  obtain ⟨i3, hi3, x2, x3, xz⟩ := info3a
  obtain ⟨i27, hi27, y2, y3, yz⟩ := info27a
  have hra := h.ra
  have hrb := h.rb
  rw [hn] at hra hrb
  obtain ⟨a1, c1, w1, r1, o1, f1, t1⟩ := app_one 28 3 i3 _ 8 Try.underlying28 hi3 xz rfl x2 x3 (by decide) w av (.int .i64 (p : Int)) rfl n _ hra (by omega)
  have T1 : Turn (fun _ => False) w0 w1 := h.turn.trans t1 (fun q hq e => by have := (h.na q e).1; omega)
  have hv1 : Src w1.drew pv ps := by
    by_cases h0 : 0 < ps.length
    · exact src_turn_pos hv T1.drew (fun _ _ _ => id)
    · exact src_turn_pos hv T1.drew (fun _ _ _ => id)
  obtain ⟨v1, w2, r2, o2, n2, t2⟩ := app_first w1.drew pv ps hv1 hl
  obtain ⟨g, c, w3, r3, hc64, hgn, hgl, hrg, t3⟩ := app_zeros w1.drew w2 v1 ps hl o2 n2 t2
  have hs1 : w1.drew.heap.size = w1.heap.size := rfl
  have t13 : Turn (fun q => av.ownBlock = some q) w w3 := (t1.drew).trans t3 (fun _ _ h => h.elim)
  have hrb3 := t13.owns hrb (fun q hq e => (h.na q e).2.2.2 hq)
  obtain ⟨a2, c2, w4, r4, o4, f4, t4⟩ := app_one 26 27 i27 _ 24 Try.underlying26 hi27 yz rfl y2 y3 (by decide) w3 bv (.slice (some ⟨g, 0, none⟩) 64 c) rfl n us hrb3 (by omega)
  refine ⟨a1, c1, w1, v1, w2, g, c, w3, a2, c2, w4, fun q => R q ∨ q = g, r1, T1, t1, r2, r3, r4, ?_, t2, t3, t4⟩
  have g1 := t1.size
  have g3 := t3.size
  have g4 := t4.size
  rw [hs1] at g3 hgn
  -- the world of the old things
  have T4 : Turn (fun q => av.ownBlock = some q ∨ bv.ownBlock = some q) w w4 := (t13.mono (fun _ _ h => Or.inl h)).trans t4 (fun q _ e => Or.inr e)
  have nR : ∀ q, R q → q < w.heap.size → ¬ (av.ownBlock = some q ∨ bv.ownBlock = some q) := fun q hR _ hh => by
    rcases hh with hh | hh
    · exact (h.rl q hR).2.2.2.2.1 hh
    · exact (h.rl q hR).2.2.2.2.2 hh
  have mono : ∀ {v : Value} {s : List Int}, Told w4 R v s → Told w4 (fun q => R q ∨ q = g) v s := fun ⟨g9, c9, e1, e2, e3, e4, e5⟩ => ⟨g9, c9, e1, e2, .inl e3, e4, e5⟩
  have hgb : bv.ownBlock ≠ some g := fun e => by have := (h.rb.lt g e).2; omega
  have newav : ∀ q, (Value.slice a1 (n + 1) c1).ownBlock = some q → av.ownBlock = some q ∨ (w.heap.size ≤ q ∧ q < w1.heap.size) := fun q hq => by
    rcases f1 with f | ⟨g9, f, hg9⟩
    · exact .inl (f.symm.trans hq)
    · rw [hq] at f; cases f; exact .inr ⟨hg9, (o1.lt q hq).2⟩
  have newbv : ∀ q, (Value.slice a2 (n + 1) c2).ownBlock = some q → bv.ownBlock = some q ∨ w3.heap.size ≤ q := fun q hq => by
    rcases f4 with f | ⟨g9, f, hg9⟩
    · exact .inl (f.symm.trans hq)
    · rw [hq] at f; cases f; exact .inr hg9
  obtain ⟨S', dsc, wv, hd⟩ := h.disk
  have hT0 : Turn (fun _ => False) w0 w4 := h.turn.trans T4 (fun q hq e => by
    rcases e with e | e
    · have := (h.na q e).1; omega
    · have := (h.nb q e).1; omega)
  have hav3 : w3.ownsRow 0 3 1 (.slice a1 (n + 1) c1) (n + 1) (intsV (numsOf wl) ++ [.int .i64 (p : Int)]) := (Turn.refl (fun _ => False) w1).drew.trans t3 (fun _ _ => id) |>.owns o1 (fun _ _ => id)
  have e1 : intsV (numsOf (wl ++ [(p, pad64 ps)])) = intsV (numsOf wl) ++ [.int .i64 (p : Int)] := by simp [intsV, numsOf]
  have e2 : (wl ++ [(p, pad64 ps)]).length = n + 1 := by simp [hn]
  have hul : us.length = n := by have := hrb.1; simpa using this
  refine ⟨⟨S', dsc, wv, hd.turn T4 (fun q hF e => ?_)⟩, fun q hF => ⟨by have := (h.fl q hF).1; omega, (h.fl q hF).2⟩, hT0, fun q hq => ?_, h.klen, h.slen, h.sv.turn T4 (fun e => ?_), h.vl, h.sb, fun i hi => mono ((h.told i hi).turn T4 nR), ?_, ?_, fun j hj => ?_, fun j hj => ?_, fun q hq => ?_, fun q hq => ?_⟩
  · rcases e with e | e
    · exact (h.na q e).2.1 hF
    · exact (h.nb q e).2.1 hF
  · rcases hq with hR | rfl
    · have hr := h.rl q hR
      refine ⟨by omega, hr.2.1, hr.2.2.1, hr.2.2.2.1, fun e => ?_, fun e => ?_⟩
      · rcases newav q e with e | e
        · exact hr.2.2.2.2.1 e
        · omega
      · rcases newbv q e with e | e
        · exact hr.2.2.2.2.2 e
        · omega
    · refine ⟨by omega, by omega, fun hF => by have := (h.fl q hF).1; omega, fun e => by have := h.sv.lt; omega, fun e => ?_, fun e => ?_⟩
      · rcases newav q e with e | e
        · have := (h.ra.lt q e).2; omega
        · omega
      · rcases newbv q e with e | e
        · exact hgb e
        · omega
  · rcases e with e | e
    · exact (h.na SB e).2.2.1 rfl
    · exact (h.nb SB e).2.2 rfl
  · rw [e1, e2]
    exact t4.owns hav3 (fun q hq e => by
      rcases newav q hq with e9 | e9
      · exact (h.na q e9).2.2.2 e
      · have := (h.rb.lt q e).2; omega)
  · rw [e2]; exact o4
  · by_cases hj' : j < wl.length
    · rw [getD_snoc_lt wl _ _ hj']; exact h.wk j hj'
    · obtain rfl : j = wl.length := by rw [e2] at hj; omega
      rw [getD_snoc_eq]; exact hp
  · by_cases hj' : j < wl.length
    · rw [getD_snoc_lt wl _ _ hj', getD_snoc_lt us _ _ (by omega)]
      exact mono ((h.tu j hj').turn T4 nR)
    · obtain rfl : j = wl.length := by rw [e2] at hj; omega
      have ej : (us ++ [Value.slice (some ⟨g, 0, none⟩) 64 c]).getD wl.length undef = .slice (some ⟨g, 0, none⟩) 64 c := by rw [hn, ← hul]; exact getD_snoc_eq us _ _
      rw [getD_snoc_eq, ej]
      exact ⟨g, c, rfl, hc64, .inr rfl, by omega, rangeAt_turn hrg t4 hgb⟩
  · rcases newav q hq with e | e
    · have := h.na q e
      refine ⟨this.1, this.2.1, this.2.2.1, fun e9 => ?_⟩
      rcases newbv q e9 with e8 | e8
      · exact this.2.2.2 e8
      · have := (h.ra.lt q e).2; omega
    · refine ⟨by omega, fun hF => by have := (h.fl q hF).1; omega, fun e9 => by have := h.sv.lt; omega, fun e9 => ?_⟩
      rcases newbv q e9 with e8 | e8
      · have := (h.rb.lt q e8).2; omega
      · omega
  · rcases newbv q hq with e | e
    · exact h.nb q e
    · exact ⟨by omega, fun hF => by have := (h.fl q hF).1; omega, fun e9 => by have := h.sv.lt; omega⟩
end Go.Proofs.Ytckeackepolhdaa
