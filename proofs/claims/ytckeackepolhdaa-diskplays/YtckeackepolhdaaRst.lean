/- Own: a disk and the reference's lists beside it. No statement is proved here. -/
import Derived.Test.YtckeackepolhdaaSec
namespace Go.Proofs.Ytckeackepolhdaa
open Go.RowKit
set_option linter.unusedVariables false
set_option linter.unusedSimpArgs false

def numsOf (wl : List (Nat × List Int)) : List Nat := wl.map (·.1)
theorem nums_get (wl : List (Nat × List Int)) (j : Nat) : (numsOf wl).getD j 0 = (wl.getD j (0, [])).1 := by
  unfold numsOf
  simp only [List.getD_eq_getElem?_getD, List.getElem?_map]
  cases wl[j]? <;> rfl
theorem told_last {w : World} {R : Nat → Prop} {v0 : Value} {s0 : List Int} {s : Nat} {us : List Value} {wl : List (Nat × List Int)} (h0 : Told w R v0 s0) (hu : ∀ j, j < wl.length → Told w R (us.getD j undef) (wl.getD j (0, [])).2) :
    ∀ j, j ≤ wl.length → Told w R (lastV v0 s (numsOf wl) us j) ((lastW (wl.take j) s).getD s0) := by
  intro j
  induction j with
  | zero => intro _; exact h0
  | succ j ih =>
    intro hj
    have ih := ih (by omega)
    have hg : wl.getD j (0, []) = wl[j] := by simp [List.getD, show j < wl.length by omega]
    rw [List.take_succ_eq_append_getElem (by omega), lastW_app]
    show Told w R (if (numsOf wl).getD j 0 = s then us.getD j undef else lastV v0 s (numsOf wl) us j) _
    rw [nums_get, hg]
    have hl : lastW [wl[j]] s = if wl[j].1 = s then some wl[j].2 else none := by simp [lastW]
    rw [hl]
    by_cases e : wl[j].1 = s
    · rw [if_pos e, if_pos e]
      have := hu j (by omega)
      rw [hg] at this
      exact this
    · rw [if_neg e, if_neg e]
      exact ih
theorem told_put {w : World} {R : Nat → Prop} {k : Nat} {us vs : List Value} {sl : List (List Int)} {wl : List (Nat × List Int)} (f : Nat → Bool) (hvl : vs.length = k) (hsl : sl.length = k) (hv : ∀ i, i < k → Told w R (vs.getD i undef) (sl.getD i [])) (hu : ∀ j, j < wl.length → Told w R (us.getD j undef) (wl.getD j (0, [])).2) :
    ∀ j, j ≤ wl.length → ∀ i, i < k → Told w R ((putF vs (numsOf wl) us f j).getD i undef) ((keepK sl wl f j).getD i []) := by
  intro j
  induction j with
  | zero => intro _; exact hv
  | succ j ih =>
    intro hj i hi
    have ih := ih (by omega) i hi
    unfold putF keepK
    by_cases e : f j = true
    · rw [if_pos e, if_pos e, nums_get]
      by_cases e2 : (wl.getD j (0, [])).1 = i
      · have a1 : ((putF vs (numsOf wl) us f j).set (wl.getD j (0, [])).1 (us.getD j undef)).getD i undef = us.getD j undef := by
          simp only [List.getD_eq_getElem?_getD, List.getElem?_set]
          rw [if_pos (by simpa [List.getD_eq_getElem?_getD] using e2), if_pos (by rw [putF_len, hvl]; have := e2; simp only [List.getD_eq_getElem?_getD] at this; omega)]; rfl
        have a2 : ((keepK sl wl f j).set (wl.getD j (0, [])).1 (wl.getD j (0, [])).2).getD i [] = (wl.getD j (0, [])).2 := by
          simp only [List.getD_eq_getElem?_getD, List.getElem?_set]
          rw [if_pos (by simpa [List.getD_eq_getElem?_getD] using e2), if_pos (by rw [keepK_len, hsl]; have := e2; simp only [List.getD_eq_getElem?_getD] at this; omega)]; rfl
        rw [a1, a2]
        exact hu j (by omega)
      · have a1 : ((putF vs (numsOf wl) us f j).set (wl.getD j (0, [])).1 (us.getD j undef)).getD i undef = (putF vs (numsOf wl) us f j).getD i undef := by
          rw [List.getD_eq_getElem?_getD, List.getElem?_set_ne e2, ← List.getD_eq_getElem?_getD]
        have a2 : ((keepK sl wl f j).set (wl.getD j (0, [])).1 (wl.getD j (0, [])).2).getD i [] = (keepK sl wl f j).getD i [] := by
          rw [List.getD_eq_getElem?_getD, List.getElem?_set_ne e2, ← List.getD_eq_getElem?_getD]
        rw [a1, a2]
        exact ih
    · rw [if_neg e, if_neg e]
      exact ih
theorem putV_F (vs : List Value) (ks : List Nat) (us : List Value) (j : Nat) : putV vs ks us j = putF vs ks us (fun _ => true) j := by
  induction j with
  | zero => rfl
  | succ j ih => unfold putV putF; rw [ih, if_pos rfl]

def intsV (ks : List Nat) : List Value := ks.map (fun (x : Nat) => Value.int .i64 (x : Int))
/-- A disk and the lists beside it. -/
structure RSt (w0 w : World) (D k SB : Nat) (d : DiskM) (F R : Nat → Prop) (vs : List Value) (av bv : Value) (us : List Value) (sl : List (List Int)) (wl : List (Nat × List Int)) : Prop where
  disk : ∃ S dsc wv, DiskIn w F D S dsc wv d
  fl : ∀ q, F q → q < w.heap.size ∧ w0.heap.size ≤ q
  turn : Turn (fun _ => False) w0 w
  rl : ∀ q, R q → q < w.heap.size ∧ w0.heap.size ≤ q ∧ ¬ F q ∧ q ≠ SB ∧ av.ownBlock ≠ some q ∧ bv.ownBlock ≠ some q
  klen : d.safe.length = k
  slen : sl.length = k
  sv : ValsIn w SB 27 vs
  vl : vs.length = k
  sb : w0.heap.size ≤ SB ∧ ¬ F SB
  told : ∀ i, i < k → Told w R (vs.getD i undef) (sl.getD i [])
  ra : w.ownsRow 0 3 1 av wl.length (intsV (numsOf wl))
  rb : w.ownsRow 0 27 1 bv wl.length us
  wk : ∀ j, j < wl.length → (wl.getD j (0, [])).1 < k
  tu : ∀ j, j < wl.length → Told w R (us.getD j undef) (wl.getD j (0, [])).2
  na : ∀ q, av.ownBlock = some q → w0.heap.size ≤ q ∧ ¬ F q ∧ q ≠ SB ∧ bv.ownBlock ≠ some q
  nb : ∀ q, bv.ownBlock = some q → w0.heap.size ≤ q ∧ ¬ F q ∧ q ≠ SB
section
variable {w0 w w' : World} {D k SB : Nat} {d d' : DiskM} {F R : Nat → Prop} {vs : List Value} {av bv : Value} {us : List Value} {sl : List (List Int)} {wl : List (Nat × List Int)}
/-- Whatever turns nothing of these. -/
theorem RSt.other (h : RSt w0 w D k SB d F R vs av bv us sl wl) {S : Nat → Prop} (T : Turn S w w') (h1 : ∀ q, S q → q < w.heap.size → w0.heap.size ≤ q ∧ ¬ F q ∧ ¬ R q ∧ q ≠ SB ∧ av.ownBlock ≠ some q ∧ bv.ownBlock ≠ some q) : RSt w0 w' D k SB d F R vs av bv us sl wl := by
  have hs := T.size
  have hT0 : Turn (fun _ => False) w0 w' := h.turn.trans T (fun q hq hS => by have := (h1 q hS (Nat.lt_of_lt_of_le hq h.turn.size)).1; omega)
  obtain ⟨S', dsc, wv, hd⟩ := h.disk
  have hSB := h.sv.lt
  have nF : ∀ q, F q → ¬ S q := fun q hF hS => (h1 q hS (h.fl q hF).1).2.1 hF
  have nR : ∀ q, R q → q < w.heap.size → ¬ S q := fun q hR hq hS => (h1 q hS hq).2.2.1 hR
  exact ⟨⟨S', dsc, wv, hd.turn T nF⟩, fun q hF => ⟨by have := (h.fl q hF).1; omega, (h.fl q hF).2⟩, hT0, fun q hR => ⟨by have := (h.rl q hR).1; omega, (h.rl q hR).2⟩, h.klen, h.slen,
    h.sv.turn T (fun hS => (h1 SB hS hSB).2.2.2.1 rfl), h.vl, h.sb, fun i hi => (h.told i hi).turn T nR, T.owns h.ra (fun q hq hS => (h1 q hS (h.ra.lt q hq).2).2.2.2.2.1 hq), T.owns h.rb (fun q hq hS => (h1 q hS (h.rb.lt q hq).2).2.2.2.2.2 hq),
    h.wk, fun j hj => (h.tu j hj).turn T nR, h.na, h.nb⟩
theorem RSt.calm (h : RSt w0 w D k SB d F R vs av bv us sl wl) (T : Turn (fun _ => False) w w') : RSt w0 w' D k SB d F R vs av bv us sl wl := h.other T (fun _ hf => hf.elim)
/-- The disk acts. -/
theorem RSt.act (h : RSt w0 w D k SB d F R vs av bv us sl wl) {F1 : Nat → Prop} {S1 sc1 : Nat} {wv1 : Value} (hd : DiskIn w' F1 D S1 sc1 wv1 d') (hg : Grown w F F1) (T : Turn F w w') (hk : d'.safe.length = k) :
    ∃ F', RSt w0 w' D k SB d' F' R vs av bv us sl wl := by
  have hs := T.size
  have fi := hd.foot_in
  have hF' : ∀ q, Foot D S1 wv1 q → q < w.heap.size → F q := fun q hq hl => by
    rcases hg.2 q (fi q hq) with h | h
    · exact h
    · omega
  have hT0 : Turn (fun _ => False) w0 w' := h.turn.trans T (fun q hq hS => by have := (h.fl q hS).2; omega)
  have nR : ∀ q, R q → q < w.heap.size → ¬ F q := fun q hR _ => (h.rl q hR).2.2.1
  refine ⟨Foot D S1 wv1, ⟨_, _, _, hd.small⟩, fun q hq => ⟨hd.foot_lt q hq, ?_⟩, hT0, fun q hR => ?_, hk, h.slen, h.sv.turn T h.sb.2, h.vl, ⟨h.sb.1, fun hq => h.sb.2 (hF' SB hq h.sv.lt)⟩, fun i hi => (h.told i hi).turn T nR,
    T.owns h.ra (fun q hq => (h.na q hq).2.1), T.owns h.rb (fun q hq => (h.nb q hq).2.1), h.wk, fun j hj => (h.tu j hj).turn T nR, fun q hq => ?_, fun q hq => ?_⟩
  · by_cases hl : q < w.heap.size
    · exact (h.fl q (hF' q hq hl)).2
    · have := h.turn.size; omega
  · have := h.rl q hR
    exact ⟨by omega, this.2.1, fun hq => this.2.2.1 (hF' q hq this.1), this.2.2.2⟩
  · have := h.na q hq
    exact ⟨this.1, fun hF => this.2.1 (hF' q hF (h.ra.lt q hq).2), this.2.2⟩
  · have := h.nb q hq
    exact ⟨this.1, fun hF => this.2.1 (hF' q hF (h.rb.lt q hq).2), this.2.2⟩
theorem grown_refl (w : World) (F : Nat → Prop) : Grown w F F := ⟨fun _ h => h, fun _ h => .inl h⟩
/-- Writes are put where they belong. -/
theorem RSt.put (h : RSt w0 w D k SB d F R vs av bv us sl wl) (f : Nat → Bool) (hV : ValsIn w' SB 27 (putF vs (numsOf wl) us f wl.length)) (T : Turn (fun q => q = SB) w w') : RSt w0 w' D k SB d F R (putF vs (numsOf wl) us f wl.length) av bv us (keepK sl wl f wl.length) wl := by
  have hs := T.size
  obtain ⟨S', dsc, wv, hd⟩ := h.disk
  have nR : ∀ q, R q → q < w.heap.size → ¬ q = SB := fun q hR _ => (h.rl q hR).2.2.2.1
  have hT0 : Turn (fun _ => False) w0 w' := h.turn.trans T (fun q hq hS => by have := h.sb.1; omega)
  exact ⟨⟨S', dsc, wv, hd.turn T (fun q hF e => h.sb.2 (by rw [← e]; exact hF))⟩, fun q hF => ⟨by have := (h.fl q hF).1; omega, (h.fl q hF).2⟩, hT0, fun q hR => ⟨by have := (h.rl q hR).1; omega, (h.rl q hR).2⟩, h.klen, by rw [keepK_len]; exact h.slen,
    hV, by rw [putF_len]; exact h.vl, h.sb, fun i hi => (told_put f h.vl h.slen h.told h.tu wl.length (Nat.le_refl _) i hi).turn T nR, T.owns h.ra (fun q hq => (h.na q hq).2.2.1), T.owns h.rb (fun q hq => (h.nb q hq).2.2),
    h.wk, fun j hj => (h.tu j hj).turn T nR, h.na, h.nb⟩
theorem RSt.clear (h : RSt w0 w D k SB d F R vs av bv us sl wl) : RSt w0 w D k SB d F R vs (.slice none 0 0) (.slice none 0 0) [] sl [] :=
  ⟨h.disk, h.fl, h.turn, fun q hR => ⟨(h.rl q hR).1, (h.rl q hR).2.1, (h.rl q hR).2.2.1, (h.rl q hR).2.2.2.1, (by intro e; cases e), (by intro e; cases e)⟩, h.klen, h.slen, h.sv, h.vl, h.sb, h.told, World.ownsRow_nil _ _ _ _, World.ownsRow_nil _ _ _ _, (fun j hj => by simp at hj), (fun j hj => by simp at hj), (fun q hq => by cases hq), (fun q hq => by cases hq)⟩
theorem RSt.nums (h : RSt w0 w D k SB d F R vs av bv us sl wl) {a : Option Addr} {n c : Nat} (hn : wl.length = n) (e : av = .slice a n c) : NumsAt w a n (numsOf wl) := fun hp => by
  subst e
  have hra := h.ra
  rw [hn] at hra
  rcases hra.2 with ⟨h9, h0⟩ | ⟨g, cap, cur, h9, _⟩
  · omega
  · cases h9
    refine ⟨g, rfl, fun j hj => ?_⟩
    have := hra.cells (g := g) rfl j (.int .i64 (((numsOf wl).getD j 0 : Nat) : Int)) (by simp [intsV, List.getD, numsOf, show j < wl.length by omega])
    rwa [Addr.add_lit, Nat.zero_add] at this
theorem RSt.vals (h : RSt w0 w D k SB d F R vs av bv us sl wl) {a : Option Addr} {n c : Nat} (hn : wl.length = n) (e : bv = .slice a n c) : ValsAt w a n us := fun hp => by
  subst e
  have hrb := h.rb
  rw [hn] at hrb
  have hul : us.length = n := by simpa using hrb.1
  rcases hrb.2 with ⟨h9, h0⟩ | ⟨g, cap, cur, h9, _⟩
  · omega
  · cases h9
    refine ⟨g, rfl, fun j hj => ?_⟩
    have := hrb.cells (g := g) rfl j (us.getD j undef) (by simp [List.getD, show j < us.length by omega])
    rwa [Addr.add_lit, Nat.zero_add] at this
theorem RSt.slices (h : RSt w0 w D k SB d F R vs av bv us sl wl) : ∀ j, j < wl.length → ∃ a l c, us.getD j undef = .slice a l c := fun j hj => by
  obtain ⟨g, c, e, _⟩ := h.tu j hj
  exact ⟨_, _, _, e⟩
theorem RSt.slices' (h : RSt w0 w D k SB d F R vs av bv us sl wl) : ∀ j, j < k → ∃ a l c, vs.getD j undef = .slice a l c := fun j hj => by
  obtain ⟨g, c, e, _⟩ := h.told j hj
  exact ⟨_, _, _, e⟩
theorem RSt.nas (h : RSt w0 w D k SB d F R vs av bv us sl wl) {a : Option Addr} {n c : Nat} (e : av = .slice a n c) : ∀ g, a = some ⟨g, 0, none⟩ → g ≠ SB := fun g hg => (h.na g (by rw [e, hg]; rfl)).2.2.1
theorem RSt.nbs (h : RSt w0 w D k SB d F R vs av bv us sl wl) {a : Option Addr} {n c : Nat} (e : bv = .slice a n c) : ∀ g, a = some ⟨g, 0, none⟩ → g ≠ SB := fun g hg => (h.nb g (by rw [e, hg]; rfl)).2.2
end
theorem own3_form {w : World} {v : Value} {n : Nat} {xs : List Value} {e : TypeId} {s : Nat} (h : w.ownsRow 0 e s v n xs) : ∃ a c, v = .slice a n c := by
  rcases h.2 with ⟨rfl, h0⟩ | ⟨g, cap, cur, rfl, _⟩
  · exact ⟨none, 0, by rw [h0]⟩
  · exact ⟨_, _, rfl⟩
end Go.Proofs.Ytckeackepolhdaa
