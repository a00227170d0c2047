/- Own texts, packed: Q39. -/
import Derived.Test.YtboofamenpcnhaaGreatDoorV26
import Derived.Test.YtboofamenpcnhaaGreatDoorV36
import Derived.Test.YtboofamenpcnhaaGreatDoorV14
import Derived.Test.YtboofamenpcnhaaGreatDoorV15
import Derived.Test.YtboofamenpcnhaaGreatDoorV00
namespace Go.Proofs.YtboofamenpcnhaaGreatDoor
set_option maxRecDepth 100000
open Go.RowKit Go.Shelf
set_option linter.unusedVariables false
set_option linter.unusedSimpArgs false
/-- The packages' tables. -/
structure Tb (w : World) (f : Eight) (ks : List Int) : Prop where
  tab : Tab w
  roots : Roots w ks
  first : w.rangeAt 0 0 f.vals
theorem Tb.turn {w w' : World} {f : Eight} {ks : List Int} {G : Nat → Prop} (h : Tb w f ks) (t : Turn G w w') (hG : ∀ k, k < 4 → ¬ G k) : Tb w' f ks := by
  have h3 := h.tab.1
  refine ⟨⟨Nat.lt_of_lt_of_le h3 t.size, fun i hi => (t.cell (p := ⟨3, i, none⟩) h3 (hG 3 (by omega))).trans (h.tab.2 i hi)⟩, ⟨h.roots.1, Nat.lt_of_lt_of_le h.roots.2.1 t.size, fun i hi => (t.cell (p := ⟨2, i, none⟩) h.roots.2.1 (hG 2 (by omega))).trans (h.roots.2.2 i hi)⟩, rangeAt_turn h.first t (hG 0 (by omega))⟩
theorem Tb.turn0 {w w' : World} {f : Eight} {ks : List Int} (h : Tb w f ks) (t : Turn (fun _ => False) w w') : Tb w' f ks := h.turn t (fun _ _ => id)
theorem JC.turn {w w' : World} {F G : Nat → Prop} {J D : Nat} {d : DiskM} {L : Nat} {C : List (List Int)} {n : Nat} (h : JC w F J D d L C n) (t : Turn G w w') (hF : ∀ k, F k → ¬ G k) (hJ : ¬ G J) : JC w' F J D d L C n :=
  { h with jh := ⟨h.jh.dh.turn t hF, h.jh.jat.turn t hJ, h.jh.nJ, h.jh.big⟩ }
/-- What is a shelf's. -/
def Mn (F G : Nat → Prop) (J S : Nat) (k : Nat) : Prop := F k ∨ G k ∨ k = J ∨ k = S
structure SH (w : World) (B : Nat) (F G : Nat → Prop) (S J M D : Nat) (d : DiskM) (L : Nat) (C : List (List Int)) (n P : Nat) (U : Nat → Bool) (sl : List Ob) (f : Eight) (ks : List Int) : Prop where
  sh : ShAt w S J M sl
  jc : JC w F J D d L C n
  arm : d.armed = false
  mu : MapU w G M P U
  len : C.length = 60 + P
  small : P ≤ 1000
  tb : Tb w f ks
  b4 : 4 ≤ B
  bM : ∀ k, Mn F G J S k → B ≤ k
  nFS : ¬ F S
  nGS : ¬ G S
  nGJ : ¬ G J
  nSJ : S ≠ J
  nFG : ∀ k, F k → ¬ G k
section
variable {w w' : World} {B : Nat} {F G : Nat → Prop} {S J M D : Nat} {d : DiskM} {L : Nat} {C : List (List Int)} {n P : Nat} {U : Nat → Bool} {sl : List Ob} {f : Eight} {ks : List Int}
theorem SH.lt (h : SH w B F G S J M D d L C n P U sl f ks) (k : Nat) (hk : Mn F G J S k) : k < w.heap.size := by
  rcases hk with hk | hk | rfl | rfl
  · exact h.jc.jh.dh.2 k hk
  · exact h.mu.lt k hk
  · exact h.jc.jh.jat.lt
  · exact h.sh.lt
theorem SH.turn {T : Nat → Prop} (h : SH w B F G S J M D d L C n P U sl f ks) (t : Turn T w w') (hT : ∀ k, Mn F G J S k → ¬ T k) (h4 : ∀ k, k < 4 → ¬ T k) : SH w' B F G S J M D d L C n P U sl f ks :=
  { h with sh := h.sh.turn t (hT S (.inr (.inr (.inr rfl)))), jc := h.jc.turn t (fun k hk => hT k (.inl hk)) (hT J (.inr (.inr (.inl rfl)))), mu := h.mu.turn t (fun k hk => hT k (.inr (.inl hk))), tb := h.tb.turn t h4 }
theorem SH.turn0 (h : SH w B F G S J M D d L C n P U sl f ks) (t : Turn (fun _ => False) w w') : SH w' B F G S J M D d L C n P U sl f ks := h.turn t (fun _ _ => id) (fun _ _ => id)
/-- Pages are written. -/
theorem SH.write (h : SH w B F G S J M D d L C (n + 200) P U sl f ks) (v : Value) (l : List (Int × List Int)) (R : Nat → Prop) (hp : PagesIn w R v l) (hR : ∀ k, R k → k < w.heap.size ∧ ¬ Mn F G J S k) (hb : ∀ x ∈ l, BytesOk x.2) (hl : l.length ≤ 24) (hfit : fitsB C.length l = true) :
    Calls Tryz.prog 39 #[.pointer (some ⟨J, 0, none⟩), v] w fun e w' => e = .returned (.int .i64 0) ∧ ∃ F' d' L', SH w' B F' G S J M D d' L' (putM C l) n P U sl f ks ∧ Step w (Mn F G J S) w' (Mn F' G J S) ∧ Turn (fun k => F k ∨ k = J) w w' := by
  refine (write_h w F R J D d L C n v l h.jc h.arm hp (fun k hk => ⟨(hR k hk).1, fun hF => (hR k hk).2 (.inl hF), fun e => (hR k hk).2 (.inr (.inr (.inl e)))⟩) hb hl hfit).mono ?_
  rintro e w1 ⟨rfl, F', d', L', hj, ha, hs⟩
  have hBw : B ≤ w.heap.size := Nat.le_trans (h.bM S (.inr (.inr (.inr rfl)))) (Nat.le_of_lt h.sh.lt)
  refine ⟨rfl, F', d', L', ⟨h.sh.turn hs.turn (fun e => ?_), hj, ha, h.mu.turn hs.turn (fun k hk e => ?_), by rw [putM_len]; exact h.len, h.small, h.tb.turn hs.turn (fun k hk e => ?_), h.b4, fun k hk => ?_, hs.out h.sh.lt h.nFS, h.nGS, h.nGJ, h.nSJ, fun k hk hG => ?_⟩, ⟨fun k hk => ?_, hs.turn.mono (fun k _ hk => ?_)⟩, hs.turn⟩
  · rcases e with e | e
    · exact h.nFS e
    · exact h.nSJ e
  · rcases e with e | rfl
    · exact h.nFG k e hk
    · exact h.nGJ hk
  · have := h.b4
    rcases e with e | rfl
    · have := h.bM k (.inl e); omega
    · have := h.bM k (.inr (.inr (.inl rfl))); omega
  · rcases hk with hk | hk
    · rcases hs.grown k hk with hk | hk
      · exact h.bM k (.inl hk)
      · omega
    · exact h.bM k (.inr hk)
  · rcases hs.grown k hk with hk | hk
    · exact h.nFG k hk hG
    · have := h.mu.lt k hG; omega
  · rcases hk with hk | hk
    · rcases hs.grown k hk with hk | hk
      · exact .inl (.inl hk)
      · exact .inr hk
    · exact .inl (.inr hk)
  · rcases hk with hk | rfl
    · exact .inl hk
    · exact .inr (.inr (.inl rfl))
/-- The map turns. -/
theorem SH.grow (h : SH w B F G S J M D d L C n P U sl f ks) {G' : Nat → Prop} {U' : Nat → Bool} (hg : Grow w G w' G') (hm : MapU w' G' M P U') : SH w' B F G' S J M D d L C n P U' sl f ks ∧ Step w (Mn F G J S) w' (Mn F G' J S) := by
  have hBw : B ≤ w.heap.size := Nat.le_trans (h.bM S (.inr (.inr (.inr rfl)))) (Nat.le_of_lt h.sh.lt)
  refine ⟨⟨h.sh.turn hg.1 h.nGS, h.jc.turn hg.1 (fun k hk => h.nFG k hk) h.nGJ, h.arm, hm, h.len, h.small, h.tb.turn hg.1 (fun k hk hG => ?_), h.b4, fun k hk => ?_, h.nFS, fun hG => h.nGS (hg.2 S h.sh.lt hG), fun hG => h.nGJ (hg.2 J h.jc.jh.jat.lt hG), h.nSJ, fun k hk hG => h.nFG k hk (hg.2 k (h.jc.jh.dh.2 k hk) hG)⟩, ⟨fun k hk => ?_, hg.1.mono (fun k _ hk => .inr (.inl hk))⟩⟩
  · have := h.b4; have := h.bM k (.inr (.inl hG)); omega
  · rcases hk with hk | hk | hk
    · exact h.bM k (.inl hk)
    · by_cases e : k < w.heap.size
      · exact h.bM k (.inr (.inl (hg.2 k e hk)))
      · omega
    · exact h.bM k (.inr (.inr hk))
  · rcases hk with hk | hk | hk
    · exact .inl (.inl hk)
    · by_cases e : k < w.heap.size
      · exact .inl (.inr (.inl (hg.2 k e hk)))
      · exact .inr (by omega)
    · exact .inl (.inr (.inr hk))
/-- A slot is set. -/
theorem SH.set (h : SH w B F G S J M D d L C n P U sl f ks) (k : Nat) (hk : k < 48) (o : Ob) (ho : o.Ok) : SH (w.setCells S (1 + k * 34) o.vals) B F G S J M D d L C n P U (sl.set k o) f ks ∧ Step w (Mn F G J S) (w.setCells S (1 + k * 34) o.vals) (Mn F G J S) := by
  have t := turn_setCells S o.vals (1 + k * 34) w
  have hB := h.bM S (.inr (.inr (.inr rfl)))
  have h4 := h.b4
  refine ⟨⟨h.sh.set k hk o ho, h.jc.turn t (fun q hq e => h.nFS (e ▸ hq)) (fun e => h.nSJ e.symm), h.arm, h.mu.turn t (fun q hq e => h.nGS (e ▸ hq)), h.len, h.small, h.tb.turn t (fun q hq e => by omega), h.b4, h.bM, h.nFS, h.nGS, h.nGJ, h.nSJ, h.nFG⟩, ⟨fun _ h => .inl h, t.mono (fun q _ e => .inr (.inr (.inr e)))⟩⟩
end
/-- The pages of an object. -/
def objP (ob : Ob) (slot : Nat) (ps : List Int) : List (Int × List Int) := (List.range (secN ps.length)).map (fun (k : Nat) => (ob.first + (k : Int), pieceB ps k)) ++ [((slot : Int), sealB (slotB ob))]
end Go.Proofs.YtboofamenpcnhaaGreatDoor
namespace Go.Proofs.YtboofamenpcnhaaGreatDoor
set_option maxRecDepth 100000
open Go.RowKit Go.Shelf
set_option linter.unusedVariables false
set_option linter.unusedSimpArgs false
attribute [local go_sem] Oper.semAt_some
structure LS (w W : World) (ob : Ob) (g o L c : Nat) : Prop where
  k0 : W.heap[w.heap.size]? = some (.cells ob.vals.toArray 62 (0, 0))
  k1 : W.heap[w.heap.size + 1]? = some (.cells #[.slice none 0 0] 89 (0, 0))
  k2 : W.heap[w.heap.size + 1 + 1]? = some (.cells #[.slice (some ⟨g, o, none⟩) L c] 29 (0, 0))
  k3 : W.heap[w.heap.size + 1 + 1 + 1]? = some (.cells #[.int .i64 64] 3 (0, 0))
  size : W.heap.size = w.heap.size + 1 + 1 + 1 + 1
  turn : Turn (fun _ => False) w W
theorem lay_startw (w : World) (ob : Ob) (g o L c : Nat) : LS w ((((w.alloc (.cells ob.vals.toArray 62)).alloc (.cells #[.slice none 0 0] 89)).alloc (.cells #[.slice (some ⟨g, o, none⟩) L c] 29)).alloc (.cells #[.int .i64 64] 3)) ob g o L c := by
  have b1 := box_alloc w 62 ob.vals
  have b2 := box_alloc (w.alloc (.cells ob.vals.toArray 62)) 89 [.slice none 0 0]
  have b3 := box_alloc ((w.alloc (.cells ob.vals.toArray 62)).alloc (.cells #[.slice none 0 0] 89)) 29 [.slice (some ⟨g, o, none⟩) L c]
  have b4 := box_alloc (((w.alloc (.cells ob.vals.toArray 62)).alloc (.cells #[.slice none 0 0] 89)).alloc (.cells #[.slice (some ⟨g, o, none⟩) L c] 29)) 3 [.int .i64 64]
  have t24 := b3.turn.trans b4.turn (fun _ _ => id)
  have t14 := b2.turn.trans t24 (fun _ _ => id)
  have e2 := b2.later t24
  have e3 := b3.later b4.turn
  have e4 := b4.heap
  rw [World.size_alloc] at e2 e3 e4
  rw [World.size_alloc] at e3 e4
  rw [World.size_alloc] at e4
  exact ⟨b1.later t14, e2, e3, e4, by simp, b1.turn.trans t14 (fun _ _ => id)⟩
theorem row_form {W : World} {B n : Nat} {lv : Value} {xs : List Value} (h : W.ownsRow B 88 2 lv n xs) : ∃ a c, lv = .slice a n c := by
  rcases h.2 with ⟨rfl, rfl⟩ | ⟨g, cap, cur, rfl, _⟩
  · exact ⟨_, _, rfl⟩
  · exact ⟨_, _, rfl⟩
theorem wp_drop {P : Program} {c : Code} {K : Act → World → Prop} {Q' : Exit → Act → World → Prop} {a : Act} {w : World} (h : c.wp P (Exit.then K fun _ _ _ => False) a w) : c.wp P (Exit.then K Q') a w := wp_mono h (fun e a w he => by cases e <;> first | exact he | exact he.elim)
theorem wp_via {P : Program} {c : Code} {K : Act → World → Prop} {a : Act} {w : World} (A : Act → World → Prop) (h : c.wp P (Exit.then A fun _ _ _ => False) a w) (hk : ∀ a w, A a w → K a w) : c.wp P (Exit.then K fun _ _ _ => False) a w := wp_mono h (fun e a w he => by cases e <;> first | exact hk _ _ he | exact he.elim)
/-- Behind the slot's page. -/
structure L5 (W0 W w5 : World) (Bl : Nat) (la : Option Addr) (kk lc : Nat) (la2 : Option Addr) (lc2 gs slot g o Z : Nat) (ob : Ob) : Prop where
  row : w5.ownsRow W0.heap.size 88 2 (.slice la2 (kk + 1) lc2) (kk + 1) (flC g o Z ob.first (List.range kk) ++ [.int .i64 (slot : Int), .slice (some ⟨gs, 0, none⟩) 64 64])
  box : w5.heap[Bl]? = some (.cells #[.slice la2 (kk + 1) lc2] 89 (0, 0))
  turn : Turn (fun q => q = Bl ∨ (Value.slice la kk lc).ownBlock = some q) W w5
  slt : BytesAt w5 gs 5 (sealB (slotB ob))
  nw : W.heap.size ≤ gs
theorem L5.pages {W0 W w5 : World} {Bl : Nat} {la : Option Addr} {kk lc : Nat} {la2 : Option Addr} {lc2 gs slot g o Z c : Nat} {ob : Ob} {ps : List Int} {R : Nat → Prop} (h : L5 W0 W w5 Bl la kk lc la2 lc2 gs slot g o Z ob) (hz : ps.length = Z) (hkk : secN Z = kk)
    (hcell : ∀ i, i < ps.length → w5.cell? ⟨g, o + i, none⟩ = some (.int .u8 (ps.getD i 0))) (hRg : R g) (hR : ∀ k, W0.heap.size ≤ k → k < w5.heap.size → R k) (h0 : W0.heap.size ≤ W.heap.size) (hs : (sealB (slotB ob)).length = 64) : PagesIn w5 R (.slice la2 (kk + 1) lc2) (objP ob slot ps) := by
  have hl : (objP ob slot ps).length = kk + 1 := by simp [objP, hz, hkk]
  rcases h.row.2 with ⟨h1, h2⟩ | ⟨g2, cap, cur, h1, h2, h3, h4, h5, h6, h7⟩
  · omega
  · cases h1
    have hlt : g2 < w5.heap.size := (Array.getElem?_eq_some_iff.1 h3).1
    have hfl := flC_len g o Z ob.first (List.range kk)
    rw [List.length_range] at hfl
    have hcu : ∀ j u, (flC g o Z ob.first (List.range kk) ++ [.int .i64 (slot : Int), .slice (some ⟨gs, 0, none⟩) 64 64])[j]? = some u → w5.cell? ⟨g2, j, none⟩ = some u := fun j u hj => by
      rw [cell_of_row w5 g2 j _ 88 (0, 0) h3, ← h7, List.getElem?_take] at *
      split at hj
      · simpa using hj
      · cases hj
    refine .inr ⟨g2, lc2, by rw [hl], by omega, hR g2 h2 hlt, hlt, fun i x hx => ?_⟩
    by_cases hi : i < kk
    · have hx' : x = (ob.first + (i : Int), pieceB ps i) := by
        rw [objP, List.getElem?_append_left (by simp [hz, hkk, hi])] at hx
        simp [hz, hkk, hi] at hx
        exact hx.symm
      subst hx'
      obtain ⟨f1, f2⟩ := flC_at g o Z ob.first kk i hi
      refine ⟨hcu _ _ (by rw [List.getElem?_append_left (by omega)]; exact f1), chV g o Z i, hcu _ _ (by rw [List.getElem?_append_left (by omega)]; exact f2), .inl (piece_reads (c := 0) hz hcell i (by unfold secN at hkk; omega)), fun _ k hk => ?_⟩
      simp [chV, Value.ownBlock] at hk
      subst hk
      exact hRg
    · have hi' : i = kk := by have := (List.getElem?_eq_some_iff.1 hx).1; omega
      subst hi'
      have hx' : x = ((slot : Int), sealB (slotB ob)) := by
        rw [objP, List.getElem?_append_right (by simp [hz, hkk])] at hx
        simp [hz, hkk] at hx
        exact hx.symm
      subst hx'
      refine ⟨hcu _ _ (by rw [List.getElem?_append_right (by omega), hfl]; simp), .slice (some ⟨gs, 0, none⟩) 64 64, hcu _ _ (by rw [List.getElem?_append_right (by omega), hfl]; simp), .inl (h.slt.reads 64 64 hs.symm (Nat.le_refl _)), fun _ k hk => ?_⟩
      simp [Value.ownBlock] at hk
      subst hk
      exact hR gs (Nat.le_trans h0 h.nw) h.slt.lt
theorem piece_ok {ps : List Int} (h : BytesOk ps) (k : Nat) : BytesOk (pieceB ps k) := fun x hx => h x (List.mem_of_mem_drop (List.mem_of_mem_take hx))
theorem objP_ok {ob : Ob} {slot : Nat} {ps : List Int} (h : BytesOk ps) (hs : BytesOk (sealB (slotB ob))) : ∀ x ∈ objP ob slot ps, BytesOk x.2 := fun x hx => by
  rcases List.mem_append.1 hx with hx | hx
  · obtain ⟨k, _, rfl⟩ := List.mem_map.1 hx; exact piece_ok h k
  · obtain rfl := List.mem_singleton.1 hx; exact hs
theorem objP_fits {ob : Ob} {slot a P : Nat} {ps : List Int} {Cn : Nat} (hC : Cn = 60 + P) (ha : ob.first = 60 + (a : Int)) (han : a + secN ps.length ≤ P) (hslot : slot < 48) (hs : (sealB (slotB ob)).length = 64) : fitsB Cn (objP ob slot ps) = true := by
  unfold fitsB
  rw [List.all_eq_true]
  intro x hx
  rcases List.mem_append.1 hx with hx | hx
  · obtain ⟨k, hk, rfl⟩ := List.mem_map.1 hx
    have := List.mem_range.1 hk
    simp only [Bool.and_eq_true, decide_eq_true_eq]
    refine ⟨by omega, ?_⟩
    simp [pieceB]; omega
  · obtain rfl := List.mem_singleton.1 hx
    simp only [Bool.and_eq_true, decide_eq_true_eq]
    exact ⟨by omega, by omega⟩
set_option maxHeartbeats 8000000 in
theorem lay_in (w : World) (B : Nat) (F G : Nat → Prop) (S J M D : Nat) (d : DiskM) (L : Nat) (C : List (List Int)) (n P : Nat) (U : Nat → Bool) (sl : List Ob) (f : Eight) (ks : List Int) (h : SH w B F G S J M D d L C (n + 200) P U sl f ks)
    (slot : Nat) (hslot : slot < 48) (ob : Ob) (hok : ob.Ok) (ps : List Int) (Z : Nat) (hZ : ps.length = Z) (hsz0 : ob.size = (Z : Int)) (hL0 : 0 < Z) (hL : Z ≤ 900) (hbo : BytesOk ps) (g o c : Nat) (hc : Z ≤ c) (hc9 : c ≤ 9223372036854775807)
    (hcell : ∀ i, i < ps.length → w.cell? ⟨g, o + i, none⟩ = some (.int .u8 (ps.getD i 0))) (hg : ¬ Mn F G J S g) (a : Nat) (ha : ob.first = 60 + (a : Int)) (han : a + secN Z ≤ P) (hfr : ∀ p, a ≤ p → p < a + secN Z → U p = false) :
    CallsIn (FW none) 3 Tryz.prog 32 #[.pointer (some ⟨S, 0, none⟩), .int .i64 (slot : Int), .agg ob.vals.toArray, .slice (some ⟨g, o, none⟩) Z c] w fun e w' => e = .returned (.int .i64 0) ∧ ∃ F' G' d' L', SH w' B F' G' S J M D d' L' (putM C (objP ob slot ps)) n P (fun p => U p || inR (a, a + secN Z) p) (sl.set slot ob) f ks ∧ Step w (Mn F G J S) w' (Mn F' G' J S) := by
  have HSH := Lib.hid h
  have HZ := Lib.hid (And.intro hZ (And.intro hsz0 (And.intro ha han)))
  have HFR := Lib.hid hfr
  have HCE := Lib.hid hcell
  have HG := Lib.hid hg
  have HBO := Lib.hid hbo
  clear h hZ hsz0 hfr hcell hg ha han hbo
  have hls := lay_startw w ob g o Z c
  have hz := zero88
  have hf := hok.first
  have hz62 := zero62
  refine callsIn_of_wp_marks Tryz.func32 rfl trivial ?_ rfl
  simp only [Tryz.ntmps32, List.size_toArray, List.length_cons, List.length_nil, Nat.reduceAdd, Nat.reduceSub, Array.replicate_succ, Array.replicate_zero, List.push_toArray, List.append_toArray, List.nil_append, List.cons_append]
  gi_wp2
  refine ⟨trivial, ?_⟩
  refine (calls_wide (ro := none) (chunk_any _ _ _ _)).mono ?_
  rintro e w' ⟨rfl, rfl⟩
  generalize ((((w.alloc (.cells ob.vals.toArray 62)).alloc (.cells #[.slice none 0 0] 89)).alloc (.cells #[.slice (some ⟨g, o, none⟩) Z c] 29)).alloc (.cells #[.int .i64 64] 3)) = W5 at hls ⊢
  simp only [World.size_alloc]
  have HF := Lib.hid hls
  clear hls
  gi_wp2
  have hsz := HF.out.size
  refine wpIn_rangeFunc_ownG rfl (by omega) (gf := 83) (lb := #[.pointer (some ⟨w.heap.size + 1 + 1, 0, none⟩), .pointer (some ⟨w.heap.size + 1 + 1 + 1, 0, none⟩)]) rfl trivial (enters_of Tryz.func83 (by kernel_rfl) rfl)
    (encs := fun x : CX Z => #[chV g o Z x.1]) (Kp := KB (w.heap.size + 1 + 1) (w.heap.size + 1 + 1 + 1))
    (chunk_stops (3 - 1) (w.heap.size + 1 + 1) (w.heap.size + 1 + 1 + 1) g o Z c (by omega) hc hc9 W5 HF.out.k2 HF.out.k3) kb_t (kb_b (w := W5) (by omega) (by omega)) (Below.refl _ _) (fun _ => rfl)
    (fun pre W => ∃ lv, LayI W5 W (w.heap.size + 1) lv g o Z ob.first (pre.map (·.1)))
    (fun c pre W => False)
    (LayI.own W5 (w.heap.size + 1) g o Z ob.first)
    (fun c s A B row hs hg hr => hs)
    ⟨_, HF.out.k1, World.ownsRow_nil W5 _ _ _, Turn.refl _ _⟩
    (fun x => { tmps := List.toArray (.pointer (some ⟨S, 0, none⟩) :: .int .i64 (slot : Int) :: .agg ob.vals.toArray :: .slice (some ⟨g, o, none⟩) Z c :: undef :: undef :: .pointer (some ⟨w.heap.size, 0, none⟩) :: undef :: .int .i64 0 :: .pointer (some ⟨w.heap.size + 1, 0, none⟩) :: chV g o Z x.1 :: undef :: .slice (some ⟨g, o, none⟩) Z c :: .func (.func 83) #[] #[.pointer (some ⟨w.heap.size + 1 + 1, 0, none⟩), .pointer (some ⟨w.heap.size + 1 + 1 + 1, 0, none⟩)] :: chV g o Z x.1 :: undef :: undef :: undef :: undef :: undef :: undef :: undef :: undef :: undef :: undef :: undef :: undef :: undef :: undef :: undef :: undef :: undef :: undef :: undef :: undef :: undef :: undef :: undef :: undef :: undef :: undef :: undef :: undef :: undef :: undef :: undef :: undef :: undef :: undef :: undef :: undef :: undef :: undef :: undef :: undef :: undef :: []), defers := [] })
    ?assign ?body ?done ?stop
  case assign =>
    intro l x W K hK
    gi_wp2
    exact hK
  case body =>
    rintro l pre x W ⟨lv, hI⟩ hlen
    have hpl : (pre.map (·.1)).length = pre.length := by simp
    have hpn : pre.length ≤ 15 := by unfold secN at hlen; omega
    obtain ⟨la, lc, rfl⟩ := row_form hI.row
    have HI := Lib.hid hI
    have hszW := hI.turn.size
    have c9 : W.cell? ⟨w.heap.size + 1, 0, none⟩ = some (.slice la (pre.map (·.1)).length lc) := cell_of_row _ _ 0 _ 89 (0, 0) hI.box
    have k0 : W.heap[w.heap.size]? = some (.cells ob.vals.toArray 62 (0, 0)) := (hI.turn.block _ (by omega) (by omega)).trans HF.out.k0
    have c32 : W.cell? ⟨w.heap.size, 32, none⟩ = some (.int .i64 ob.first) := by
      rw [cell_of_row W _ 32 _ 62 (0, 0) k0, List.getElem?_toArray, Ob.vals, List.getElem?_append_right (by simp [hok.len])]
      simp [hok.len]
    have hrow := hI.row
    rw [hpl] at hrow c9
    have HROW := Lib.hid hrow
    obtain ⟨i, hi⟩ : ∃ i, pre.length = i := ⟨_, rfl⟩
    rw [hi] at c9 hpn HROW
    obtain ⟨q, m, hu⟩ : ∃ q m, chV g o Z x.1 = .slice (some ⟨g, q, none⟩) m m := ⟨_, _, rfl⟩
    rw [hu]
    have HU := Lib.hid hu
    have HPI := Lib.hid hi
    clear hrow hI hu hi hlen hpl k0
    gi_wp2_with (with_reducible (show wpListIn _ _ _ _ _ (Oper.mk (some 24) _ _ _ _ _ :: _) _ _); refine still ?_)
    obtain ⟨i0, hi0, hz0, hz1, hz2⟩ := info_parts Tryz.info88
    have hal := heap_alloc_new W (.cells #[.int .i64 (ob.first + (i : Int)), .slice (some ⟨g, q, none⟩) m m] 88)
    have t1 : Turn (fun _ => False) W (W.alloc (.cells #[.int .i64 (ob.first + (i : Int)), .slice (some ⟨g, q, none⟩) m m] 88)) := (Turn.refl _ W).alloc _
    obtain ⟨W1, hW1⟩ : ∃ W1, W.alloc (.cells #[.int .i64 (ob.first + (i : Int)), .slice (some ⟨g, q, none⟩) m m] 88) = W1 := ⟨_, rfl⟩
    rw [hW1] at hal t1 ⊢
    have hrow1 := HROW.out.kept (grown_of_turn t1) (by cases la <;> simp [Value.ownBlock])
    refine wpListIn_append_own W1 rfl (.tmp 15) (.tmp 23) 89 rfl W5.heap.size 88 i0 _ 2 32 Tryz.underlying89 hi0 hz0 hz1 hz2 rfl (by decide) _ i _ rfl hrow1 ⟨W.heap.size, 0, none⟩ 1 1 [.int .i64 (ob.first + (i : Int)), .slice (some ⟨g, q, none⟩) m m] rfl rfl
      (fun j u hj => by have := cell_of_row W1 W.heap.size j _ 88 (0, 0) hal; rw [show (⟨W.heap.size, 0, none⟩ : Addr).add j = ⟨W.heap.size, j, none⟩ by cases j <;> simp [Addr.add], this]; simpa using hj) (by simp [Value.oneCell']) (by unfold maxLen; omega) (by omega) (by have := t1.size; omega) ?_
    intro v' W2 ho2 hg2 hnil
    obtain ⟨la2, lc2, rfl⟩ := row_form ho2
    have hlt1 : ∀ k, (Value.slice la i lc).ownBlock = some k → W5.heap.size ≤ k := fun k hk => (hrow1.lt k hk).1
    have t2 : Turn (fun k => (Value.slice la i lc).ownBlock = some k) W1 W2 := ⟨hg2.os, hg2.tape, hg2.output, hg2.size, fun k hk hq => hg2.block k hk (fun e => hq e.symm)⟩
    have hsz1 := t1.size
    have hsz2 := t2.size
    have hbx : W2.heap[w.heap.size + 1]? = some (.cells #[.slice la i lc] 89 (0, 0)) := by
      have := HI.out.box
      rw [show (pre.map (·.1)).length = i by rw [List.length_map]; exact HPI.out] at this
      exact (t2.block _ (by omega) (fun e => by have := hlt1 _ e; omega)).trans ((t1.block _ (by omega) id).trans this)
    have c9' : W2.cell? ⟨w.heap.size + 1, 0, none⟩ = some (.slice la i lc) := cell_of_row _ _ 0 _ 89 (0, 0) hbx
    have f9' : W2.frozen? ⟨w.heap.size + 1, 0, none⟩ = false := frozen_of_row _ _ 0 _ 89 hbx
    obtain ⟨W3, hW3⟩ : ∃ W3, W2.setCell ⟨w.heap.size + 1, 0, none⟩ (.slice la2 (i + 1) lc2) = W3 := ⟨_, rfl⟩
    have hbx3 := heap_setCell_same W2 (w.heap.size + 1) 0 #[.slice la i lc] 89 (.slice la2 (i + 1) lc2) hbx
    have t3 : Turn (fun q => q = w.heap.size + 1) W2 W3 := by rw [← hW3]; exact Turn.setCell (S := fun q => q = w.heap.size + 1) (Turn.refl _ _) (p := ⟨w.heap.size + 1, 0, none⟩) (fun _ => rfl) _
    have g3 := grownBy_setCell' W2 (w.heap.size + 1) (.slice la2 (i + 1) lc2)
    have k12 : KeepsOthers W W2 := (by rw [← hW1]; exact KeepsOthers.alloc W _ : KeepsOthers W W1).trans (KeepsOthers.of_grownBy hg2 (fun j ob e hj => by
      rcases hrow1.2 with ⟨h9, _⟩ | ⟨g', cap, cur, h9, _, hgb, _⟩
      · rw [h9] at e; cases e
      · rw [h9] at e; cases e; rw [hgb] at hj; cases hj; rfl))
    have k3 : KeepsOthers W2 W3 := by rw [← hW3]; exact KeepsOthers.setCell _ _ _
    rw [hW3] at hbx3 g3
    have HT := Lib.hid (show Turn (fun q => q = w.heap.size + 1 ∨ W5.heap.size ≤ q) W W3 from ((t1.mono (fun _ _ h => h.elim)).trans (t2.mono (T := fun q => q = w.heap.size + 1 ∨ W5.heap.size ≤ q) (fun q _ h => .inr (hlt1 q h))) (fun _ _ h => h)).trans (t3.mono (T := fun q => q = w.heap.size + 1 ∨ W5.heap.size ≤ q) (fun q _ h => .inl h)) (fun _ _ h => h))
    have HKP := Lib.hid (k12.trans k3)
    have HB3 := Lib.hid hbx3
    have HO3 := Lib.hid (ho2.kept g3 (.inr (fun e => by have := (ho2.lt _ e).1; omega)))
    clear t1 t2 t3 g3 k12 k3 hbx3 hal hW1 hbx hrow1 ho2 hg2 hnil
    gi_wp2
    refine ⟨HKP.out.from _, ⟨HT.out.block _ (by omega) (by omega), HT.out.block _ (by omega) (by omega), HT.out.size⟩, _, HB3.out, ?_, HI.out.turn.trans HT.out (fun k hk h => by omega)⟩
    rw [List.map_append, List.map_singleton, flC_snoc, HU.out, List.length_append, List.length_map, HPI.out]
    exact HO3.out
  case done =>
    rintro Dd xs W hD rfl ⟨lv, hI⟩ hK
    rw [chTo_vals Z (secN Z) (by unfold secN; omega)] at hI
    obtain ⟨kk, hkk⟩ : ∃ kk, secN Z = kk := ⟨_, rfl⟩
    have hk15 : kk ≤ 15 ∧ 0 < kk := by unfold secN at hkk; omega
    rw [hkk] at hI
    have HKK := Lib.hid hkk
    have hrow := hI.row
    rw [List.length_range] at hrow
    obtain ⟨la, lc, rfl⟩ := row_form hrow
    have hszW := hI.turn.size
    have tW : Turn (fun _ => False) w W := HF.out.turn.trans hI.turn (fun k hk e => by omega)
    have c9 : W.cell? ⟨w.heap.size + 1, 0, none⟩ = some (.slice la kk lc) := cell_of_row _ _ 0 _ 89 (0, 0) hI.box
    have b0 : W.heap[w.heap.size]? = some (.cells ob.vals.toArray 62 (0, 0)) := (hI.turn.block _ (by omega) (by omega)).trans HF.out.k0
    have r0 : W.rangeAt w.heap.size 0 ob.vals := fun j v hj => by rw [Nat.zero_add, cell_of_row W _ j _ 62 (0, 0) b0]; simpa using hj
    have HROW := Lib.hid hrow
    have HBX := Lib.hid hI.box
    have HTW := Lib.hid tW
    have HB0 := Lib.hid b0
    have HKD := Lib.hid hK
    have hDd : Dd < W.heap.size := (Array.getElem?_eq_some_iff.1 hK).1
    clear hrow hI tW b0 hK hkk
    gi_wp2
    refine (wpIn_wide (n := 3)).2 ?_
    refine wp_drop ?_
    refine wp_via (fun a' w5 => ∃ x25 x26 x27 x28 x29 x30 x31 la2 lc2 gs, a' = { tmps := List.toArray (.pointer (some ⟨S, 0, none⟩) :: .int .i64 (slot : Int) :: .agg ob.vals.toArray :: .slice (some ⟨g, o, none⟩) Z c :: undef :: undef :: .pointer (some ⟨w.heap.size, 0, none⟩) :: undef :: .int .i64 0 :: .pointer (some ⟨w.heap.size + 1, 0, none⟩) :: undef :: undef :: .slice (some ⟨g, o, none⟩) Z c :: .func (.func 83) #[] #[.pointer (some ⟨w.heap.size + 1 + 1, 0, none⟩), .pointer (some ⟨w.heap.size + 1 + 1 + 1, 0, none⟩)] :: undef :: undef :: undef :: undef :: undef :: undef :: undef :: undef :: undef :: undef :: undef :: x25 :: x26 :: x27 :: x28 :: x29 :: x30 :: x31 :: undef :: undef :: undef :: undef :: undef :: undef :: undef :: undef :: undef :: undef :: undef :: undef :: undef :: undef :: undef :: undef :: undef :: undef :: undef :: undef :: undef :: undef :: undef :: undef :: []), defers := [{ target := .collected Dd, args := #[] }] } ∧ L5 W5 W w5 (w.heap.size + 1) la kk lc la2 lc2 gs slot g o Z ob) ?_ ?_
    · refine wp_region_held_drew (S := fun wq => wq.rangeAt w.heap.size 0 ob.vals) (by kernel_rfl) r0 (fun hHeld => ?_)
      have HCD := Lib.hid (And.intro (show W.drew.cell? ⟨w.heap.size + 1, 0, none⟩ = some (.slice la kk lc) from c9) (show W.drew.rangeAt w.heap.size 0 ob.vals from r0))
      have HTD := Lib.hid (Turn.drew (Turn.refl (fun _ => False) W))
      have hdsz : W.drew.heap.size = W.heap.size := rfl
      clear c9 r0
      generalize W.drew = wd at HCD HTD hdsz ⊢
      have hSd := HCD.out.2
      have b1lt : w.heap.size + 1 < wd.heap.size := by omega
      have b0lt : w.heap.size < wd.heap.size := by omega
      refine wpAnyH_take (i := 1) (v := .int .i64 (slot : Int)) rfl (by kernel_rfl) (by kernel_rfl) (by kernel_rfl) (fun _ _ _ h => h) (Or.inl ⟨by rfl, ?yq2⟩) (by assumption) ?rq2
      case yq2 => (intro wq hSw; (try simp only [zq1, zq2, zq3]); go_simp; (try with_reducible rfl); all_goals (try omega))
      case rq2 =>
      try simp only [Act.put, zq4, zq5, zq6, zq1, zq2, zq3]
      refine wpAnyH_take (i := 2) (v := .agg ob.vals.toArray) rfl (by kernel_rfl) (by kernel_rfl) (by kernel_rfl) (fun _ _ _ h => h) (Or.inl ⟨by rfl, ?yq3⟩) (by assumption) ?rq3
      case yq3 => (intro wq hSw; exact exec_load_mid _ _ 62 _ rfl w.heap.size 0 rfl ob.vals _ _ hSw Tryz.underlying62 rfl (by rw [hok.vlen]; exact info62))
      case rq3 =>
      try simp only [Act.put, zq4, zq5, zq6, zq1, zq2, zq3]
      refine wpAnyH_ready (rs := [0, 3]) (by kernel_rfl) (by simp) ?_
      refine AllReadyH.cons rfl (fun K hK => ?_) (AllReadyH.cons rfl (fun K hK => ?_) AllReadyH.nil)
      · have c9 := HCD.out.1
        go_simp
        refine hK.out _ _ HCD.out.2 (fun _ => ?_)
        clear hK K c9
        try simp only [Act.put, zq4, zq5, zq6, zq1, zq2, zq3]
        refine wpAnyH_ready (rs := [3]) (by kernel_rfl) (by simp) ?_
        refine AllReadyH.cons rfl (fun K hK => ?_) AllReadyH.nil
        go_simp
        refine (sealed_any ob hok wd (HSH.out.tb.turn0 (HTW.out.trans HTD.out (fun _ _ => id))).tab).mono ?_
        rintro e w2 ⟨gs, rfl, hbs, hgs, t2⟩
        have HBS := Lib.hid hbs
        have HT2 := Lib.hid t2
        have hsz2 := t2.size
        refine hK.out _ _ (rangeAt_turn HCD.out.2 t2 id) (fun _ => ?_)
        clear hK K hbs t2
        try simp only [Act.put, zq4, zq5, zq6, zq1, zq2, zq3]
        refine wpAnyH_take (i := 4) (v := .agg #[.int .i64 (slot : Int), .slice (some ⟨gs, 0, none⟩) 64 64]) rfl (by kernel_rfl) (by kernel_rfl) (by kernel_rfl) (fun _ _ _ h => h) (Or.inl ⟨by rfl, ?yq1⟩) (by assumption) ?rq1
        case yq1 => (intro wq hSw; (try simp only [zq1, zq2, zq3]); go_simp; (try with_reducible rfl); all_goals (try omega))
        case rq1 =>
        try simp only [Act.put, zq4, zq5, zq6, zq1, zq2, zq3]
        refine wpAnyH_ready (rs := [5]) (by kernel_rfl) (by simp) ?_
        refine AllReadyH.cons rfl (fun K hK => ?_) AllReadyH.nil
        go_simp
        have hal := heap_alloc_new w2 (.cells #[.int .i64 (slot : Int), .slice (some ⟨gs, 0, none⟩) 64 64] 88)
        have t3 : Turn (fun _ => False) w2 (w2.alloc (.cells #[.int .i64 (slot : Int), .slice (some ⟨gs, 0, none⟩) 64 64] 88)) := (Turn.refl _ w2).alloc _
        generalize w2.alloc (.cells #[.int .i64 (slot : Int), .slice (some ⟨gs, 0, none⟩) 64 64] 88) = w3 at hal t3 ⊢
        have HT3 := Lib.hid (HT2.out.trans t3 (fun _ _ => id))
        have HAL := Lib.hid hal
        have HT23 := Lib.hid t3
        have hsz3 := t3.size
        refine hK.out _ _ (rangeAt_turn HCD.out.2 HT3.out id) (fun _ => ?_)
        clear hK K hal t3
        try simp only [Act.put, zq4, zq5, zq6, zq1, zq2, zq3]
        refine wpAnyH_ready (rs := [6]) (by kernel_rfl) (by simp) ?_
        refine AllReadyH.cons rfl (fun K hK => ?_) AllReadyH.nil
        rw [if_pos (by rfl)]
        obtain ⟨i0, hi0, hz0, hz1, hz2⟩ := info_parts Tryz.info88
        have tW3 := HTD.out.trans HT3.out (fun _ _ => id)
        have hrow3 := HROW.out.kept (grown_of_turn tW3) (by cases la <;> simp [Value.ownBlock])
        have HROW3 := Lib.hid hrow3
        have HTW3 := Lib.hid tW3
        clear hrow3 tW3
        refine wp_append_own w3 (.tmp 25) (.tmp 30) 89 rfl W5.heap.size 88 i0 _ 2 32 Tryz.underlying89 hi0 hz0 hz1 hz2 rfl (by decide) _ kk _ rfl HROW3.out ⟨w2.heap.size, 0, none⟩ 1 1 [.int .i64 (slot : Int), .slice (some ⟨gs, 0, none⟩) 64 64] rfl rfl
          (fun j u hj => by have := cell_of_row w3 w2.heap.size j _ 88 (0, 0) HAL.out; rw [show (⟨w2.heap.size, 0, none⟩ : Addr).add j = ⟨w2.heap.size, j, none⟩ by cases j <;> simp [Addr.add], this]; simpa using hj) (by simp [Value.oneCell']) (by unfold maxLen; omega) (by omega) (by omega) ?_
        intro v' w4 ho4 hg4 _
        obtain ⟨la2, lc2, rfl⟩ := row_form ho4
        have hlt3 : ∀ k, (Value.slice la kk lc).ownBlock = some k → W5.heap.size ≤ k ∧ k < W.heap.size := HROW.out.lt
        have t4 : Turn (fun k => (Value.slice la kk lc).ownBlock = some k) w3 w4 := ⟨hg4.os, hg4.tape, hg4.output, hg4.size, fun k hk hq => hg4.block k hk (fun e => hq e.symm)⟩
        have hsz4 := t4.size
        have HT4 := Lib.hid t4
        have HO4 := Lib.hid ho4
        refine hK.out _ _ (rangeAt_turn (rangeAt_turn HCD.out.2 HT3.out id) t4 (fun e => by have := (hlt3 _ e).1; omega)) (fun _ => ?_)
        clear hK K t4 ho4 hg4
        try simp only [Act.put, zq4, zq5, zq6, zq1, zq2, zq3]
        have hbx4 : w4.heap[w.heap.size + 1]? = some (.cells #[.slice la kk lc] 89 (0, 0)) := (HT4.out.block _ (by omega) (fun e => by have := (hlt3 _ e).1; omega)).trans ((HTW3.out.block _ (by omega) id).trans HBX.out)
        have c94 : w4.cell? ⟨w.heap.size + 1, 0, none⟩ = some (.slice la kk lc) := cell_of_row _ _ 0 _ 89 (0, 0) hbx4
        have f94 : w4.frozen? ⟨w.heap.size + 1, 0, none⟩ = false := frozen_of_row _ _ 0 _ 89 hbx4
        obtain ⟨w5, hw5⟩ : ∃ w5, w4.setCell ⟨w.heap.size + 1, 0, none⟩ (.slice la2 (kk + 1) lc2) = w5 := ⟨_, rfl⟩
        have hbx5 := heap_setCell_same w4 (w.heap.size + 1) 0 #[.slice la kk lc] 89 (.slice la2 (kk + 1) lc2) hbx4
        have t5 : Turn (fun q => q = w.heap.size + 1) w4 w5 := by rw [← hw5]; exact Turn.setCell (S := fun q => q = w.heap.size + 1) (Turn.refl _ _) (p := ⟨w.heap.size + 1, 0, none⟩) (fun _ => rfl) _
        have g5 := grownBy_setCell' w4 (w.heap.size + 1) (.slice la2 (kk + 1) lc2)
        rw [hw5] at hbx5 g5
        have HO5 := Lib.hid (HO4.out.kept g5 (.inr (fun e => by have := (HO4.out.lt _ e).1; omega)))
        have HBX5 := Lib.hid hbx5
        have HT5 := Lib.hid (show Turn (fun q => q = w.heap.size + 1 ∨ (Value.slice la kk lc).ownBlock = some q) W w5 from ((HTW3.out.mono (fun _ _ h => h.elim)).trans (HT4.out.mono (T := fun q => q = w.heap.size + 1 ∨ (Value.slice la kk lc).ownBlock = some q) (fun q _ h => .inr h)) (fun _ _ h => h)).trans (t5.mono (T := fun q => q = w.heap.size + 1 ∨ (Value.slice la kk lc).ownBlock = some q) (fun q _ h => .inl h)) (fun _ _ h => h))
        have HT25 := Lib.hid (show Turn (fun q => q = w.heap.size + 1 ∨ (Value.slice la kk lc).ownBlock = some q) w2 w5 from ((HT23.out.mono (fun _ _ h => h.elim)).trans (HT4.out.mono (T := fun q => q = w.heap.size + 1 ∨ (Value.slice la kk lc).ownBlock = some q) (fun q _ h => .inr h)) (fun _ _ h => h)).trans (t5.mono (T := fun q => q = w.heap.size + 1 ∨ (Value.slice la kk lc).ownBlock = some q) (fun q _ h => .inl h)) (fun _ _ h => h))
        have hsz5 := t5.size
        have HT45 := Lib.hid t5
        clear t5 g5 hbx5 hbx4
        refine wpAnyH_ready (rs := [7]) (by kernel_rfl) (by simp) ?_
        refine AllReadyH.cons rfl (fun K hK => ?_) AllReadyH.nil
        go_simp
        refine hK.out _ _ (rangeAt_turn (rangeAt_turn (rangeAt_turn HCD.out.2 HT3.out id) HT4.out (fun e => by have := (hlt3 _ e).1; omega)) HT45.out (by omega)) (fun _ => ?_)
        clear hK K
        try simp only [Act.put, zq4, zq5, zq6, zq1, zq2, zq3]
        refine wpAnyH_done (by kernel_rfl) ?_ _
        clear hHeld
        exact ⟨_, _, _, _, _, _, _, la2, lc2, gs, rfl, HO5.out, HBX5.out, HT5.out, HBS.out.turn HT25.out (fun e => e.elim (fun e => by omega) (fun e => by have := (hlt3 _ e).2; omega)), by omega⟩
      · go_simp
        refine (sealed_any ob hok wd (HSH.out.tb.turn0 (HTW.out.trans HTD.out (fun _ _ => id))).tab).mono ?_
        rintro e w2 ⟨gs, rfl, hbs, hgs, t2⟩
        have HBS := Lib.hid hbs
        have HT2 := Lib.hid t2
        have hsz2 := t2.size
        refine hK.out _ _ (rangeAt_turn HCD.out.2 t2 id) (fun _ => ?_)
        clear hK K hbs t2
        try simp only [Act.put, zq4, zq5, zq6, zq1, zq2, zq3]
        refine wpAnyH_take (i := 4) (v := .agg #[.int .i64 (slot : Int), .slice (some ⟨gs, 0, none⟩) 64 64]) rfl (by kernel_rfl) (by kernel_rfl) (by kernel_rfl) (fun _ _ _ h => h) (Or.inl ⟨by rfl, ?yq1⟩) (by assumption) ?rq1
        case yq1 => (intro wq hSw; (try simp only [zq1, zq2, zq3]); go_simp; (try with_reducible rfl); all_goals (try omega))
        case rq1 =>
        try simp only [Act.put, zq4, zq5, zq6, zq1, zq2, zq3]
        refine wpAnyH_ready (rs := [0, 5]) (by kernel_rfl) (by simp) ?_
        refine AllReadyH.cons rfl (fun K hK => ?_) (AllReadyH.cons rfl (fun K hK => ?_) AllReadyH.nil)
        · have c9 := (HT2.out.cell (p := ⟨w.heap.size + 1, 0, none⟩) b1lt id).trans HCD.out.1
          go_simp
          refine hK.out _ _ (rangeAt_turn HCD.out.2 HT2.out id) (fun _ => ?_)
          clear hK K c9
          try simp only [Act.put, zq4, zq5, zq6, zq1, zq2, zq3]
          refine wpAnyH_ready (rs := [5]) (by kernel_rfl) (by simp) ?_
          refine AllReadyH.cons rfl (fun K hK => ?_) AllReadyH.nil
          go_simp
          have hal := heap_alloc_new w2 (.cells #[.int .i64 (slot : Int), .slice (some ⟨gs, 0, none⟩) 64 64] 88)
          have t3 : Turn (fun _ => False) w2 (w2.alloc (.cells #[.int .i64 (slot : Int), .slice (some ⟨gs, 0, none⟩) 64 64] 88)) := (Turn.refl _ w2).alloc _
          generalize w2.alloc (.cells #[.int .i64 (slot : Int), .slice (some ⟨gs, 0, none⟩) 64 64] 88) = w3 at hal t3 ⊢
          have HT3 := Lib.hid (HT2.out.trans t3 (fun _ _ => id))
          have HAL := Lib.hid hal
          have HT23 := Lib.hid t3
          have hsz3 := t3.size
          refine hK.out _ _ (rangeAt_turn HCD.out.2 HT3.out id) (fun _ => ?_)
          clear hK K hal t3
          try simp only [Act.put, zq4, zq5, zq6, zq1, zq2, zq3]
          refine wpAnyH_ready (rs := [6]) (by kernel_rfl) (by simp) ?_
          refine AllReadyH.cons rfl (fun K hK => ?_) AllReadyH.nil
          rw [if_pos (by rfl)]
          obtain ⟨i0, hi0, hz0, hz1, hz2⟩ := info_parts Tryz.info88
          have tW3 := HTD.out.trans HT3.out (fun _ _ => id)
          have hrow3 := HROW.out.kept (grown_of_turn tW3) (by cases la <;> simp [Value.ownBlock])
          have HROW3 := Lib.hid hrow3
          have HTW3 := Lib.hid tW3
          clear hrow3 tW3
          refine wp_append_own w3 (.tmp 25) (.tmp 30) 89 rfl W5.heap.size 88 i0 _ 2 32 Tryz.underlying89 hi0 hz0 hz1 hz2 rfl (by decide) _ kk _ rfl HROW3.out ⟨w2.heap.size, 0, none⟩ 1 1 [.int .i64 (slot : Int), .slice (some ⟨gs, 0, none⟩) 64 64] rfl rfl
            (fun j u hj => by have := cell_of_row w3 w2.heap.size j _ 88 (0, 0) HAL.out; rw [show (⟨w2.heap.size, 0, none⟩ : Addr).add j = ⟨w2.heap.size, j, none⟩ by cases j <;> simp [Addr.add], this]; simpa using hj) (by simp [Value.oneCell']) (by unfold maxLen; omega) (by omega) (by omega) ?_
          intro v' w4 ho4 hg4 _
          obtain ⟨la2, lc2, rfl⟩ := row_form ho4
          have hlt3 : ∀ k, (Value.slice la kk lc).ownBlock = some k → W5.heap.size ≤ k ∧ k < W.heap.size := HROW.out.lt
          have t4 : Turn (fun k => (Value.slice la kk lc).ownBlock = some k) w3 w4 := ⟨hg4.os, hg4.tape, hg4.output, hg4.size, fun k hk hq => hg4.block k hk (fun e => hq e.symm)⟩
          have hsz4 := t4.size
          have HT4 := Lib.hid t4
          have HO4 := Lib.hid ho4
          refine hK.out _ _ (rangeAt_turn (rangeAt_turn HCD.out.2 HT3.out id) t4 (fun e => by have := (hlt3 _ e).1; omega)) (fun _ => ?_)
          clear hK K t4 ho4 hg4
          try simp only [Act.put, zq4, zq5, zq6, zq1, zq2, zq3]
          have hbx4 : w4.heap[w.heap.size + 1]? = some (.cells #[.slice la kk lc] 89 (0, 0)) := (HT4.out.block _ (by omega) (fun e => by have := (hlt3 _ e).1; omega)).trans ((HTW3.out.block _ (by omega) id).trans HBX.out)
          have c94 : w4.cell? ⟨w.heap.size + 1, 0, none⟩ = some (.slice la kk lc) := cell_of_row _ _ 0 _ 89 (0, 0) hbx4
          have f94 : w4.frozen? ⟨w.heap.size + 1, 0, none⟩ = false := frozen_of_row _ _ 0 _ 89 hbx4
          obtain ⟨w5, hw5⟩ : ∃ w5, w4.setCell ⟨w.heap.size + 1, 0, none⟩ (.slice la2 (kk + 1) lc2) = w5 := ⟨_, rfl⟩
          have hbx5 := heap_setCell_same w4 (w.heap.size + 1) 0 #[.slice la kk lc] 89 (.slice la2 (kk + 1) lc2) hbx4
          have t5 : Turn (fun q => q = w.heap.size + 1) w4 w5 := by rw [← hw5]; exact Turn.setCell (S := fun q => q = w.heap.size + 1) (Turn.refl _ _) (p := ⟨w.heap.size + 1, 0, none⟩) (fun _ => rfl) _
          have g5 := grownBy_setCell' w4 (w.heap.size + 1) (.slice la2 (kk + 1) lc2)
          rw [hw5] at hbx5 g5
          have HO5 := Lib.hid (HO4.out.kept g5 (.inr (fun e => by have := (HO4.out.lt _ e).1; omega)))
          have HBX5 := Lib.hid hbx5
          have HT5 := Lib.hid (show Turn (fun q => q = w.heap.size + 1 ∨ (Value.slice la kk lc).ownBlock = some q) W w5 from ((HTW3.out.mono (fun _ _ h => h.elim)).trans (HT4.out.mono (T := fun q => q = w.heap.size + 1 ∨ (Value.slice la kk lc).ownBlock = some q) (fun q _ h => .inr h)) (fun _ _ h => h)).trans (t5.mono (T := fun q => q = w.heap.size + 1 ∨ (Value.slice la kk lc).ownBlock = some q) (fun q _ h => .inl h)) (fun _ _ h => h))
          have HT25 := Lib.hid (show Turn (fun q => q = w.heap.size + 1 ∨ (Value.slice la kk lc).ownBlock = some q) w2 w5 from ((HT23.out.mono (fun _ _ h => h.elim)).trans (HT4.out.mono (T := fun q => q = w.heap.size + 1 ∨ (Value.slice la kk lc).ownBlock = some q) (fun q _ h => .inr h)) (fun _ _ h => h)).trans (t5.mono (T := fun q => q = w.heap.size + 1 ∨ (Value.slice la kk lc).ownBlock = some q) (fun q _ h => .inl h)) (fun _ _ h => h))
          have hsz5 := t5.size
          have HT45 := Lib.hid t5
          clear t5 g5 hbx5 hbx4
          refine wpAnyH_ready (rs := [7]) (by kernel_rfl) (by simp) ?_
          refine AllReadyH.cons rfl (fun K hK => ?_) AllReadyH.nil
          go_simp
          refine hK.out _ _ (rangeAt_turn (rangeAt_turn (rangeAt_turn HCD.out.2 HT3.out id) HT4.out (fun e => by have := (hlt3 _ e).1; omega)) HT45.out (by omega)) (fun _ => ?_)
          clear hK K
          try simp only [Act.put, zq4, zq5, zq6, zq1, zq2, zq3]
          refine wpAnyH_done (by kernel_rfl) ?_ _
          clear hHeld
          exact ⟨_, _, _, _, _, _, _, la2, lc2, gs, rfl, HO5.out, HBX5.out, HT5.out, HBS.out.turn HT25.out (fun e => e.elim (fun e => by omega) (fun e => by have := (hlt3 _ e).2; omega)), by omega⟩
        · go_simp
          have hal := heap_alloc_new w2 (.cells #[.int .i64 (slot : Int), .slice (some ⟨gs, 0, none⟩) 64 64] 88)
          have t3 : Turn (fun _ => False) w2 (w2.alloc (.cells #[.int .i64 (slot : Int), .slice (some ⟨gs, 0, none⟩) 64 64] 88)) := (Turn.refl _ w2).alloc _
          generalize w2.alloc (.cells #[.int .i64 (slot : Int), .slice (some ⟨gs, 0, none⟩) 64 64] 88) = w3 at hal t3 ⊢
          have HT3 := Lib.hid (HT2.out.trans t3 (fun _ _ => id))
          have HAL := Lib.hid hal
          have HT23 := Lib.hid t3
          have hsz3 := t3.size
          refine hK.out _ _ (rangeAt_turn HCD.out.2 HT3.out id) (fun _ => ?_)
          clear hK K hal t3
          try simp only [Act.put, zq4, zq5, zq6, zq1, zq2, zq3]
          refine wpAnyH_ready (rs := [0]) (by kernel_rfl) (by simp) ?_
          refine AllReadyH.cons rfl (fun K hK => ?_) AllReadyH.nil
          have c9 := (HT3.out.cell (p := ⟨w.heap.size + 1, 0, none⟩) b1lt id).trans HCD.out.1
          go_simp
          refine hK.out _ _ (rangeAt_turn HCD.out.2 HT3.out id) (fun _ => ?_)
          clear hK K c9
          try simp only [Act.put, zq4, zq5, zq6, zq1, zq2, zq3]
          refine wpAnyH_ready (rs := [6]) (by kernel_rfl) (by simp) ?_
          refine AllReadyH.cons rfl (fun K hK => ?_) AllReadyH.nil
          rw [if_pos (by rfl)]
          obtain ⟨i0, hi0, hz0, hz1, hz2⟩ := info_parts Tryz.info88
          have tW3 := HTD.out.trans HT3.out (fun _ _ => id)
          have hrow3 := HROW.out.kept (grown_of_turn tW3) (by cases la <;> simp [Value.ownBlock])
          have HROW3 := Lib.hid hrow3
          have HTW3 := Lib.hid tW3
          clear hrow3 tW3
          refine wp_append_own w3 (.tmp 25) (.tmp 30) 89 rfl W5.heap.size 88 i0 _ 2 32 Tryz.underlying89 hi0 hz0 hz1 hz2 rfl (by decide) _ kk _ rfl HROW3.out ⟨w2.heap.size, 0, none⟩ 1 1 [.int .i64 (slot : Int), .slice (some ⟨gs, 0, none⟩) 64 64] rfl rfl
            (fun j u hj => by have := cell_of_row w3 w2.heap.size j _ 88 (0, 0) HAL.out; rw [show (⟨w2.heap.size, 0, none⟩ : Addr).add j = ⟨w2.heap.size, j, none⟩ by cases j <;> simp [Addr.add], this]; simpa using hj) (by simp [Value.oneCell']) (by unfold maxLen; omega) (by omega) (by omega) ?_
          intro v' w4 ho4 hg4 _
          obtain ⟨la2, lc2, rfl⟩ := row_form ho4
          have hlt3 : ∀ k, (Value.slice la kk lc).ownBlock = some k → W5.heap.size ≤ k ∧ k < W.heap.size := HROW.out.lt
          have t4 : Turn (fun k => (Value.slice la kk lc).ownBlock = some k) w3 w4 := ⟨hg4.os, hg4.tape, hg4.output, hg4.size, fun k hk hq => hg4.block k hk (fun e => hq e.symm)⟩
          have hsz4 := t4.size
          have HT4 := Lib.hid t4
          have HO4 := Lib.hid ho4
          refine hK.out _ _ (rangeAt_turn (rangeAt_turn HCD.out.2 HT3.out id) t4 (fun e => by have := (hlt3 _ e).1; omega)) (fun _ => ?_)
          clear hK K t4 ho4 hg4
          try simp only [Act.put, zq4, zq5, zq6, zq1, zq2, zq3]
          have hbx4 : w4.heap[w.heap.size + 1]? = some (.cells #[.slice la kk lc] 89 (0, 0)) := (HT4.out.block _ (by omega) (fun e => by have := (hlt3 _ e).1; omega)).trans ((HTW3.out.block _ (by omega) id).trans HBX.out)
          have c94 : w4.cell? ⟨w.heap.size + 1, 0, none⟩ = some (.slice la kk lc) := cell_of_row _ _ 0 _ 89 (0, 0) hbx4
          have f94 : w4.frozen? ⟨w.heap.size + 1, 0, none⟩ = false := frozen_of_row _ _ 0 _ 89 hbx4
          obtain ⟨w5, hw5⟩ : ∃ w5, w4.setCell ⟨w.heap.size + 1, 0, none⟩ (.slice la2 (kk + 1) lc2) = w5 := ⟨_, rfl⟩
          have hbx5 := heap_setCell_same w4 (w.heap.size + 1) 0 #[.slice la kk lc] 89 (.slice la2 (kk + 1) lc2) hbx4
          have t5 : Turn (fun q => q = w.heap.size + 1) w4 w5 := by rw [← hw5]; exact Turn.setCell (S := fun q => q = w.heap.size + 1) (Turn.refl _ _) (p := ⟨w.heap.size + 1, 0, none⟩) (fun _ => rfl) _
          have g5 := grownBy_setCell' w4 (w.heap.size + 1) (.slice la2 (kk + 1) lc2)
          rw [hw5] at hbx5 g5
          have HO5 := Lib.hid (HO4.out.kept g5 (.inr (fun e => by have := (HO4.out.lt _ e).1; omega)))
          have HBX5 := Lib.hid hbx5
          have HT5 := Lib.hid (show Turn (fun q => q = w.heap.size + 1 ∨ (Value.slice la kk lc).ownBlock = some q) W w5 from ((HTW3.out.mono (fun _ _ h => h.elim)).trans (HT4.out.mono (T := fun q => q = w.heap.size + 1 ∨ (Value.slice la kk lc).ownBlock = some q) (fun q _ h => .inr h)) (fun _ _ h => h)).trans (t5.mono (T := fun q => q = w.heap.size + 1 ∨ (Value.slice la kk lc).ownBlock = some q) (fun q _ h => .inl h)) (fun _ _ h => h))
          have HT25 := Lib.hid (show Turn (fun q => q = w.heap.size + 1 ∨ (Value.slice la kk lc).ownBlock = some q) w2 w5 from ((HT23.out.mono (fun _ _ h => h.elim)).trans (HT4.out.mono (T := fun q => q = w.heap.size + 1 ∨ (Value.slice la kk lc).ownBlock = some q) (fun q _ h => .inr h)) (fun _ _ h => h)).trans (t5.mono (T := fun q => q = w.heap.size + 1 ∨ (Value.slice la kk lc).ownBlock = some q) (fun q _ h => .inl h)) (fun _ _ h => h))
          have hsz5 := t5.size
          have HT45 := Lib.hid t5
          clear t5 g5 hbx5 hbx4
          refine wpAnyH_ready (rs := [7]) (by kernel_rfl) (by simp) ?_
          refine AllReadyH.cons rfl (fun K hK => ?_) AllReadyH.nil
          go_simp
          refine hK.out _ _ (rangeAt_turn (rangeAt_turn (rangeAt_turn HCD.out.2 HT3.out id) HT4.out (fun e => by have := (hlt3 _ e).1; omega)) HT45.out (by omega)) (fun _ => ?_)
          clear hK K
          try simp only [Act.put, zq4, zq5, zq6, zq1, zq2, zq3]
          refine wpAnyH_done (by kernel_rfl) ?_ _
          clear hHeld
          exact ⟨_, _, _, _, _, _, _, la2, lc2, gs, rfl, HO5.out, HBX5.out, HT5.out, HBS.out.turn HT25.out (fun e => e.elim (fun e => by omega) (fun e => by have := (hlt3 _ e).2; omega)), by omega⟩
    · rintro _ w5 ⟨x25, x26, x27, x28, x29, x30, x31, la2, lc2, gs, rfl, h5⟩
      have h5d : L5 W5 W w5.drew (w.heap.size + 1) la kk lc la2 lc2 gs slot g o Z ob := ⟨h5.row, h5.box, h5.turn.drew, h5.slt, h5.nw⟩
      have H5 := Lib.hid h5d
      have hlt3 : ∀ k, (Value.slice la kk lc).ownBlock = some k → W5.heap.size ≤ k ∧ k < W.heap.size := HROW.out.lt
      have t5 : Turn (fun _ => False) w w5 := HTW.out.trans h5.turn (fun k hk e => e.elim (fun e => by omega) (fun e => by have := (hlt3 _ e).1; omega))
      have cS : w5.cell? ⟨S, 0, none⟩ = some (.pointer (some ⟨J, 0, none⟩)) := (HSH.out.turn0 t5).sh.c0
      have c9 : w5.cell? ⟨w.heap.size + 1, 0, none⟩ = some (.slice la2 (kk + 1) lc2) := cell_of_row _ _ 0 _ 89 (0, 0) h5.box
      clear h5 h5d t5
      gi_wp2
      refine (wpIn_wide (n := 3)).2 ?_
      refine wp_drop ?_
      refine wp_region_held_drew (S := fun wq => wq.cell? ⟨S, 0, none⟩ = some (.pointer (some ⟨J, 0, none⟩)) ∧ wq.cell? ⟨w.heap.size + 1, 0, none⟩ = some (.slice la2 (kk + 1) lc2)) (by kernel_rfl) ⟨cS, c9⟩ (fun hHeld => ?_)
      have hS5 : w5.drew.cell? ⟨S, 0, none⟩ = some (.pointer (some ⟨J, 0, none⟩)) ∧ w5.drew.cell? ⟨w.heap.size + 1, 0, none⟩ = some (.slice la2 (kk + 1) lc2) := ⟨cS, c9⟩
      clear cS c9
      generalize w5.drew = v5 at H5 hS5 ⊢
      have hsz5 := H5.out.turn.size
      have t5 : Turn (fun _ => False) w v5 := HTW.out.trans H5.out.turn (fun k hk e => e.elim (fun e => by omega) (fun e => by have := (hlt3 _ e).1; omega))
      have S5 := HSH.out.turn0 t5
      have hb05 : v5.heap[w.heap.size]? = some (.cells ob.vals.toArray 62 (0, 0)) := (H5.out.turn.block _ (by omega) (fun e => e.elim (fun e => by omega) (fun e => by have := (hlt3 _ e).1; omega))).trans HB0.out
      have hd5 : v5.heap[Dd]? = some (.deferred (some [])) := (H5.out.turn.block _ hDd (fun e => e.elim (fun e => by omega) (fun e => by
        rcases HROW.out.2 with ⟨h9, _⟩ | ⟨g', cap, cur, h9, _, hgb, _⟩
        · rw [h9] at e; cases e
        · rw [h9] at e; cases e; rw [HKD.out] at hgb; cases hgb))).trans HKD.out
      have hmw : ∀ k, Mn F G J S k → k < w.heap.size := HSH.out.lt
      have HT5 := Lib.hid t5
      have HB5 := Lib.hid hb05
      have HD5 := Lib.hid hd5
      have HS5 := Lib.hid S5
      have HWR := Lib.hid (S5.write (.slice la2 (kk + 1) lc2) (objP ob slot ps) (fun k => k = g ∨ (W5.heap.size ≤ k ∧ k < v5.heap.size)) (H5.out.pages (c := c) HZ.out.1 HKK.out (fun i hi => (t5.cell (p := ⟨g, o + i, none⟩) (World.block_lt_of_cell? _ _ (HCE.out i hi)) id).trans (HCE.out i hi)) (.inl rfl) (fun k h1 h2 => .inr ⟨h1, h2⟩) hszW (sealB_len _))
        (fun k hk => by
          have hgw : g < w.heap.size := World.block_lt_of_cell? _ _ (HCE.out 0 (by have := HZ.out.1; omega))
          have := t5.size
          rcases hk with rfl | ⟨h1, h2⟩
          · exact ⟨by omega, HG.out⟩
          · exact ⟨h2, fun hm => by have := hmw k hm; omega⟩)
        (objP_ok HBO.out (sealB_ok _ (slotB_ok hok))) (by simp only [objP, List.length_append, List.length_map, List.length_range, List.length_singleton]; rw [HZ.out.1, HKK.out]; omega) (objP_fits HSH.out.len HZ.out.2.2.1 (by rw [HZ.out.1]; exact HZ.out.2.2.2) hslot (sealB_len _)))
      clear t5 S5 hb05 hd5
      refine wpAnyH_take (i := 0) (v := .pointer (some ⟨S, 0, none⟩)) rfl (by kernel_rfl) (by kernel_rfl) (by kernel_rfl) (fun _ _ _ h => h) (Or.inl ⟨by rfl, ?yq4⟩) (by assumption) ?rq4
      case yq4 => (intro wq hSw; (try simp only [zq1, zq2, zq3]); go_simp; (try with_reducible rfl); all_goals (try omega))
      case rq4 =>
      try simp only [Act.put, zq4, zq5, zq6, zq1, zq2, zq3]
      refine wpAnyH_take (i := 1) (v := .pointer (some ⟨S, 0, none⟩)) rfl (by kernel_rfl) (by kernel_rfl) (by kernel_rfl) (fun _ _ _ h => h) (Or.inl ⟨by rfl, ?yq5⟩) (by assumption) ?rq5
      case yq5 => (intro wq hSw; (try simp only [zq1, zq2, zq3]); go_simp; (try with_reducible rfl); all_goals (try omega))
      case rq5 =>
      try simp only [Act.put, zq4, zq5, zq6, zq1, zq2, zq3]
      refine wpAnyH_take (i := 2) (v := .pointer (some ⟨S, 0, none⟩)) rfl (by kernel_rfl) (by kernel_rfl) (by kernel_rfl) (fun _ _ _ h => h) (Or.inl ⟨by rfl, ?yq6⟩) (by assumption) ?rq6
      case yq6 => (intro wq hSw; (try simp only [zq1, zq2, zq3]); go_simp; (try with_reducible rfl); all_goals (try omega))
      case rq6 =>
      try simp only [Act.put, zq4, zq5, zq6, zq1, zq2, zq3]
      refine wpAnyH_take (i := 3) (v := .pointer (some ⟨J, 0, none⟩)) rfl (by kernel_rfl) (by kernel_rfl) (by kernel_rfl) (fun _ _ _ h => h) (Or.inl ⟨by rfl, ?yq7⟩) (by assumption) ?rq7
      case yq7 => (intro wq hSw; obtain ⟨z1, z2⟩ := hSw; (try simp only [zq1, zq2, zq3]); go_simp; (try with_reducible rfl); all_goals (try omega))
      case rq7 =>
      try simp only [Act.put, zq4, zq5, zq6, zq1, zq2, zq3]
      refine wpAnyH_take (i := 4) (v := .slice la2 (kk + 1) lc2) rfl (by kernel_rfl) (by kernel_rfl) (by kernel_rfl) (fun _ _ _ h => h) (Or.inl ⟨by rfl, ?yq8⟩) (by assumption) ?rq8
      case yq8 => (intro wq hSw; obtain ⟨z1, z2⟩ := hSw; (try simp only [zq1, zq2, zq3]); go_simp; (try with_reducible rfl); all_goals (try omega))
      case rq8 =>
      try simp only [Act.put, zq4, zq5, zq6, zq1, zq2, zq3]
      refine wpAnyH_ready (rs := [5]) (by kernel_rfl) (by simp) ?_
      refine AllReadyH.cons rfl (fun K hK => ?_) AllReadyH.nil
      go_simp
      refine HWR.out.mono ?_
      rintro e w6 ⟨rfl, F6, d6, L6, hs6, hst6, ht6⟩
      have HS6 := Lib.hid hs6
      have HST6 := Lib.hid hst6
      have HT6 := Lib.hid ht6
      refine hK.out _ _ ⟨hs6.sh.c0, (ht6.cell (p := ⟨w.heap.size + 1, 0, none⟩) (by show w.heap.size + 1 < v5.heap.size; omega) (fun e => by
        have : w.heap.size + 1 < w.heap.size := e.elim (fun e => hmw _ (.inl e)) (fun e => hmw _ (.inr (.inr (.inl e))))
        omega)).trans hS5.2⟩ (fun _ => ?_)
      clear hK K hs6 hst6 ht6
      try simp only [Act.put, zq4, zq5, zq6, zq1, zq2, zq3]
      refine wpAnyH_take (i := 6) (v := .int .i64 0) rfl (by kernel_rfl) (by kernel_rfl) (by kernel_rfl) (fun _ _ _ h => h) (Or.inl ⟨by rfl, ?yq9⟩) (by assumption) ?rq9
      case yq9 => (intro wq hSw; (try simp only [zq1, zq2, zq3]); go_simp; (try with_reducible rfl); all_goals (try omega))
      case rq9 =>
      try simp only [Act.put, zq4, zq5, zq6, zq1, zq2, zq3]
      refine wpAnyH_done (by kernel_rfl) ?_ _
      clear hHeld hS5
      have hsz6 := HT6.out.size
      have b06 : w6.heap[w.heap.size]? = some (.cells ob.vals.toArray 62 (0, 0)) := (HT6.out.block _ (by omega) (fun e => by
        have : w.heap.size < w.heap.size := e.elim (fun e => hmw _ (.inl e)) (fun e => hmw _ (.inr (.inr (.inl e))))
        omega)).trans HB5.out
      have r06 : w6.rangeAt w.heap.size 0 ob.vals := fun j v hj => by rw [Nat.zero_add, cell_of_row w6 _ j _ 62 (0, 0) b06]; simpa using hj
      have cM : w6.cell? ⟨S, 1633, none⟩ = some (.pointer (some ⟨M, 0, none⟩)) := HS6.out.sh.cM
      have HB06 := Lib.hid b06
      have hpl : ∀ w, Calls Tryz.prog 41 #[.agg ob.vals.toArray] w fun e w' => e = .returned (.int .i64 (a : Int)) ∧ Turn (fun _ => False) w w' := fun w => by
        have := place_any ob hok w
        rwa [show ob.first - 60 = (a : Int) by have := HZ.out.2.2.1; omega] at this
      have hse : ∀ w, Calls Tryz.prog 42 #[.agg ob.vals.toArray] w fun e w' => e = .returned (.int .i64 (kk : Int)) ∧ Turn (fun _ => False) w w' := fun w => by
        have := sectors_ob ob hok w
        rwa [show secN ob.size.toNat = kk by rw [HZ.out.2.1, Int.toNat_natCast]; exact HKK.out] at this
      have HPL := Lib.hid hpl
      have HSE := Lib.hid hse
      clear b06 hpl hse
      gi_wp2
      refine (wpIn_wide (n := 3)).2 ?_
      refine wp_drop ?_
      refine wp_region_held_drew (S := fun wq => wq.cell? ⟨S, 1633, none⟩ = some (.pointer (some ⟨M, 0, none⟩)) ∧ wq.rangeAt w.heap.size 0 ob.vals) (by kernel_rfl) ⟨cM, r06⟩ (fun hHeld => ?_)
      have hS6 : w6.drew.cell? ⟨S, 1633, none⟩ = some (.pointer (some ⟨M, 0, none⟩)) ∧ w6.drew.rangeAt w.heap.size 0 ob.vals := ⟨cM, r06⟩
      have HTD6 := Lib.hid (Turn.drew (Turn.refl (fun _ => False) w6))
      clear cM r06
      generalize w6.drew = v6 at HTD6 hS6 ⊢
      refine wpAnyH_take (i := 0) (v := .pointer (some ⟨S, 0, none⟩)) rfl (by kernel_rfl) (by kernel_rfl) (by kernel_rfl) (fun _ _ _ h => h) (Or.inl ⟨by rfl, ?yq10⟩) (by assumption) ?rq10
      case yq10 => (intro wq hSw; (try simp only [zq1, zq2, zq3]); go_simp; (try with_reducible rfl); all_goals (try omega))
      case rq10 =>
      try simp only [Act.put, zq4, zq5, zq6, zq1, zq2, zq3]
      refine wpAnyH_take (i := 1) (v := .pointer (some ⟨S, 0, none⟩)) rfl (by kernel_rfl) (by kernel_rfl) (by kernel_rfl) (fun _ _ _ h => h) (Or.inl ⟨by rfl, ?yq11⟩) (by assumption) ?rq11
      case yq11 => (intro wq hSw; (try simp only [zq1, zq2, zq3]); go_simp; (try with_reducible rfl); all_goals (try omega))
      case rq11 =>
      try simp only [Act.put, zq4, zq5, zq6, zq1, zq2, zq3]
      refine wpAnyH_take (i := 2) (v := .pointer (some ⟨S, 1633, none⟩)) rfl (by kernel_rfl) (by kernel_rfl) (by kernel_rfl) (fun _ _ _ h => h) (Or.inl ⟨by rfl, ?yq12⟩) (by assumption) ?rq12
      case yq12 => (intro wq hSw; (try simp only [zq1, zq2, zq3]); go_simp; (try with_reducible rfl); all_goals (try omega))
      case rq12 =>
      try simp only [Act.put, zq4, zq5, zq6, zq1, zq2, zq3]
      refine wpAnyH_take (i := 3) (v := .pointer (some ⟨M, 0, none⟩)) rfl (by kernel_rfl) (by kernel_rfl) (by kernel_rfl) (fun _ _ _ h => h) (Or.inl ⟨by rfl, ?yq13⟩) (by assumption) ?rq13
      case yq13 => (intro wq hSw; obtain ⟨z1, z2⟩ := hSw; (try simp only [zq1, zq2, zq3]); go_simp; (try with_reducible rfl); all_goals (try omega))
      case rq13 =>
      try simp only [Act.put, zq4, zq5, zq6, zq1, zq2, zq3]
      refine wpAnyH_take (i := 4) (v := .agg ob.vals.toArray) rfl (by kernel_rfl) (by kernel_rfl) (by kernel_rfl) (fun _ _ _ h => h) (Or.inl ⟨by rfl, ?yq14⟩) (by assumption) ?rq14
      case yq14 => (intro wq hSw; obtain ⟨z1, z2⟩ := hSw; exact exec_load_mid _ _ 62 _ rfl w.heap.size 0 rfl ob.vals _ _ z2 Tryz.underlying62 rfl (by rw [hok.vlen]; exact info62))
      case rq14 =>
      try simp only [Act.put, zq4, zq5, zq6, zq1, zq2, zq3]
      refine wpAnyH_take (i := 6) (v := .agg ob.vals.toArray) rfl (by kernel_rfl) (by kernel_rfl) (by kernel_rfl) (fun _ _ _ h => h) (Or.inl ⟨by rfl, ?yq15⟩) (by assumption) ?rq15
      case yq15 => (intro wq hSw; obtain ⟨z1, z2⟩ := hSw; exact exec_load_mid _ _ 62 _ rfl w.heap.size 0 rfl ob.vals _ _ z2 Tryz.underlying62 rfl (by rw [hok.vlen]; exact info62))
      case rq15 =>
      try simp only [Act.put, zq4, zq5, zq6, zq1, zq2, zq3]
      refine wpAnyH_ready (rs := [5]) (by kernel_rfl) (by simp) ?_
      refine AllReadyH.cons rfl (fun K hK => ?_) AllReadyH.nil
      go_simp
      refine (HPL.out v6).mono ?_
      rintro e w7 ⟨rfl, t7⟩
      have HT7 := Lib.hid t7
      refine hK.out _ _ ⟨(t7.cell (p := ⟨S, 1633, none⟩) (World.block_lt_of_cell? _ _ hS6.1) id).trans hS6.1, rangeAt_turn hS6.2 t7 id⟩ (fun _ => ?_)
      clear hK K t7
      try simp only [Act.put, zq4, zq5, zq6, zq1, zq2, zq3]
      refine wpAnyH_ready (rs := [7]) (by kernel_rfl) (by simp) ?_
      refine AllReadyH.cons rfl (fun K hK => ?_) AllReadyH.nil
      go_simp
      refine (HSE.out w7).mono ?_
      rintro e w8 ⟨rfl, t8⟩
      have HT8 := Lib.hid (HT7.out.trans t8 (fun _ _ => id))
      refine hK.out _ _ ⟨(HT8.out.cell (p := ⟨S, 1633, none⟩) (World.block_lt_of_cell? _ _ hS6.1) id).trans hS6.1, rangeAt_turn hS6.2 HT8.out id⟩ (fun _ => ?_)
      clear hK K t8
      try simp only [Act.put, zq4, zq5, zq6, zq1, zq2, zq3]
      have HS8 := Lib.hid (HS6.out.turn0 (HTD6.out.trans HT8.out (fun _ _ => id)))
      refine wpAnyH_ready (rs := [8]) (by kernel_rfl) (by simp) ?_
      refine AllReadyH.cons rfl (fun K hK => ?_) AllReadyH.nil
      go_simp
      refine (take_yes w8 G M P U HS8.out.mu (by have := HS8.out.small; omega) a kk (by rw [← HKK.out]; exact HZ.out.2.2.2) (by rw [← HKK.out]; exact HFR.out)).mono ?_
      rintro e w9 ⟨rfl, G9, hgr, hm9⟩
      obtain ⟨hs9, hst9⟩ := HS8.out.grow hgr hm9
      have HS9 := Lib.hid hs9
      have HST9 := Lib.hid hst9
      have HT9 := Lib.hid hgr.1
      have h8 := HT8.out.size
      have h6 := HTD6.out.size
      have HR9 := Lib.hid (show w9.rangeAt w.heap.size 0 ob.vals from rangeAt_turn (rangeAt_turn hS6.2 HT8.out id) hgr.1 (fun e => by have := hmw _ (.inr (.inl e)); omega))
      refine hK.out _ _ ⟨hs9.sh.cM, HR9.out⟩ (fun _ => ?_)
      clear hK K hs9 hst9 hgr hm9
      try simp only [Act.put, zq4, zq5, zq6, zq1, zq2, zq3]
      refine wpAnyH_done (by kernel_rfl) ?_ _
      clear hHeld hS6
      have hts := HS9.out.sh.there slot hslot
      have hr9 := HR9.out
      gi_wp2
      refine (wpIn_wide (n := 3)).2 ?_
      refine wp_drop ?_
      refine wp_region_held_drew (S := fun wq => True ∧ wq.rangeAt w.heap.size 0 ob.vals) (by kernel_rfl) ⟨trivial, hr9⟩ (fun hHeld => ?_)
      have hS9 : True ∧ w9.drew.rangeAt w.heap.size 0 ob.vals := ⟨trivial, hr9⟩
      have HTD9 := Lib.hid (Turn.drew (Turn.refl (fun _ => False) w9))
      have hts9 : w9.drew.there S (1 + slot * 34) 34 := hts
      clear hr9 hts
      generalize w9.drew = v9 at HTD9 hS9 hts9 ⊢
      obtain ⟨hs10, hst10⟩ := (HS9.out.turn0 HTD9.out).set slot hslot ob hok
      have t10 := turn_setCells S ob.vals (1 + slot * 34) v9
      generalize hw10 : v9.setCells S (1 + slot * 34) ob.vals = w10 at hs10 hst10 t10
      have HS10 := Lib.hid hs10
      have HST10 := Lib.hid hst10
      have HT10 := Lib.hid t10
      clear hs10 hst10 t10
      refine wpAnyH_take (i := 0) (v := .pointer (some ⟨S, 0, none⟩)) rfl (by kernel_rfl) (by kernel_rfl) (by kernel_rfl) (fun _ _ _ h => h) (Or.inl ⟨by rfl, ?yq16⟩) (by assumption) ?rq16
      case yq16 => (intro wq hSw; (try simp only [zq1, zq2, zq3]); go_simp; (try with_reducible rfl); all_goals (try omega))
      case rq16 =>
      try simp only [Act.put, zq4, zq5, zq6, zq1, zq2, zq3]
      refine wpAnyH_take (i := 1) (v := .int .i64 (slot : Int)) rfl (by kernel_rfl) (by kernel_rfl) (by kernel_rfl) (fun _ _ _ h => h) (Or.inl ⟨by rfl, ?yq17⟩) (by assumption) ?rq17
      case yq17 => (intro wq hSw; (try simp only [zq1, zq2, zq3]); go_simp; (try with_reducible rfl); all_goals (try omega))
      case rq17 =>
      try simp only [Act.put, zq4, zq5, zq6, zq1, zq2, zq3]
      refine wpAnyH_take (i := 2) (v := .agg ob.vals.toArray) rfl (by kernel_rfl) (by kernel_rfl) (by kernel_rfl) (fun _ _ _ h => h) (Or.inl ⟨by rfl, ?yq18⟩) (by assumption) ?rq18
      case yq18 => (intro wq hSw; obtain ⟨z1, z2⟩ := hSw; exact exec_load_mid _ _ 62 _ rfl w.heap.size 0 rfl ob.vals _ _ z2 Tryz.underlying62 rfl (by rw [hok.vlen]; exact info62))
      case rq18 =>
      try simp only [Act.put, zq4, zq5, zq6, zq1, zq2, zq3]
      refine wpAnyH_take (i := 3) (v := .pointer (some ⟨S, 0, none⟩)) rfl (by kernel_rfl) (by kernel_rfl) (by kernel_rfl) (fun _ _ _ h => h) (Or.inl ⟨by rfl, ?yq19⟩) (by assumption) ?rq19
      case yq19 => (intro wq hSw; (try simp only [zq1, zq2, zq3]); go_simp; (try with_reducible rfl); all_goals (try omega))
      case rq19 =>
      try simp only [Act.put, zq4, zq5, zq6, zq1, zq2, zq3]
      refine wpAnyH_take (i := 4) (v := .pointer (some ⟨S, 1, none⟩)) rfl (by kernel_rfl) (by kernel_rfl) (by kernel_rfl) (fun _ _ _ h => h) (Or.inl ⟨by rfl, ?yq20⟩) (by assumption) ?rq20
      case yq20 => (intro wq hSw; (try simp only [zq1, zq2, zq3]); go_simp; (try with_reducible rfl); all_goals (try omega))
      case rq20 =>
      try simp only [Act.put, zq4, zq5, zq6, zq1, zq2, zq3]
      refine wpAnyH_take (i := 5) (v := .pointer (some ⟨S, 1 + slot * 34, none⟩)) rfl (by kernel_rfl) (by kernel_rfl) (by kernel_rfl) (fun _ _ _ h => h) (Or.inl ⟨by rfl, ?yq21⟩) (by assumption) ?rq21
      case yq21 => (intro wq hSw; (try simp only [zq1, zq2, zq3]); go_simp; (try with_reducible rfl); all_goals (try omega))
      case rq21 =>
      try simp only [Act.put, zq4, zq5, zq6, zq1, zq2, zq3]
      refine wpAnyH_ready (rs := [6]) (by kernel_rfl) (by simp) ?_
      refine AllReadyH.cons rfl (fun K hK => ?_) AllReadyH.nil
      rw [if_pos (by rfl)]
      refine wp_store_mid 62 (.tmp 55) (.tmp 52) rfl S (1 + slot * 34) ob.vals.toArray rfl rfl (by simpa [hok.vlen] using hts9) (info62v hok) (all_oneCell_toArray ob.vals_one) ?_
      rw [show v9.setCells S (1 + slot * 34) ob.vals.toArray.toList = w10 from hw10]
      refine hK.out _ _ ⟨trivial, rangeAt_turn hS9.2 HT10.out (fun e => by have := hmw S (.inr (.inr (.inr rfl))); omega)⟩ (fun _ => ?_)
      clear hK K
      try simp only [Act.put, zq4, zq5, zq6, zq1, zq2, zq3]
      refine wpAnyH_done (by kernel_rfl) ?_ _
      clear hHeld hS9
      have hDw : ¬ Mn F G J S Dd := fun hm => by have := hmw Dd hm; omega
      have hDv : Dd < v5.heap.size := by omega
      have e6 := HST6.out
      have e8 := e6.trans (Step.of0 _ (HTD6.out.trans HT8.out (fun _ _ => id)))
      have e9 := (e8.trans HST9.out).trans (Step.of0 _ HTD9.out)
      have e10 := e9.trans HST10.out
      have hK10 : w10.heap[Dd]? = some (.deferred (some [])) := (e10.turn.block Dd hDv hDw).trans HD5.out
      have hnD := e10.out hDv hDw
      have ew := (Step.of0 (Mn F G J S) HT5.out).trans e10
      have hgr := grownBy_putObj' w10 Dd (.deferred none)
      have t11 : Turn (fun q => q = Dd) w10 (w10.putObj Dd (.deferred none)) := ⟨hgr.os, hgr.tape, hgr.output, hgr.size, fun k hk hq => hgr.block k hk (fun e => hq (by cases e; rfl))⟩
      have hfin := HS10.out.turn t11 (fun k hk e => hnD (e ▸ hk)) (fun k hk e => by have := HSH.out.b4; have := HSH.out.bM S (.inr (.inr (.inr rfl))); have := hmw S (.inr (.inr (.inr rfl))); omega)
      rw [← HKK.out] at hfin
      have HFIN := Lib.hid (And.intro hfin (show Step w (Mn F G J S) (w10.putObj Dd (.deferred none)) (Mn F6 G9 J S) from ⟨ew.grown, ew.turn.trans t11 (fun k hk e => by omega)⟩))
      clear e6 e8 e9 e10 hnD ew hgr t11 hfin
      gi_wp2
      refine ⟨by simp, .inl ⟨_, _, rfl, run_takeDeferred hK10, ?_⟩⟩
      refine ⟨.int .i64 0, ?_, rfl, F6, G9, d6, L6, HFIN.out.1, HFIN.out.2⟩
      have hr : Tryz.f32.results = #[.tmp 8] := by kernel_rfl
      simp [results, hr]
  case stop =>
    rintro D c pre W hD _ h
    exact h.elim
theorem olay_any (w : World) (B : Nat) (F G : Nat → Prop) (S J M D : Nat) (d : DiskM) (L : Nat) (C : List (List Int)) (n P : Nat) (U : Nat → Bool) (sl : List Ob) (f : Eight) (ks : List Int) (h : SH w B F G S J M D d L C (n + 200) P U sl f ks)
    (slot : Nat) (hslot : slot < 48) (ob : Ob) (hok : ob.Ok) (ps : List Int) (Z : Nat) (hZ : ps.length = Z) (hsz0 : ob.size = (Z : Int)) (hL0 : 0 < Z) (hL : Z ≤ 900) (hbo : BytesOk ps) (g o c : Nat) (hc : Z ≤ c) (hc9 : c ≤ 9223372036854775807)
    (hcell : ∀ i, i < ps.length → w.cell? ⟨g, o + i, none⟩ = some (.int .u8 (ps.getD i 0))) (hg : ¬ Mn F G J S g) (a : Nat) (ha : ob.first = 60 + (a : Int)) (han : a + secN Z ≤ P) (hfr : ∀ p, a ≤ p → p < a + secN Z → U p = false) :
    Calls Tryz.prog 32 #[.pointer (some ⟨S, 0, none⟩), .int .i64 (slot : Int), .agg ob.vals.toArray, .slice (some ⟨g, o, none⟩) Z c] w fun e w' => e = .returned (.int .i64 0) ∧ ∃ F' G' d' L', SH w' B F' G' S J M D d' L' (putM C (objP ob slot ps)) n P (fun p => U p || inR (a, a + secN Z) p) (sl.set slot ob) f ks ∧ Step w (Mn F G J S) w' (Mn F' G' J S) :=
  callsIn_wide.1 (lay_in w B F G S J M D d L C n P U sl f ks h slot hslot ob hok ps Z hZ hsz0 hL0 hL hbo g o c hc hc9 hcell hg a ha han hfr)
end Go.Proofs.YtboofamenpcnhaaGreatDoor
namespace Go.Proofs.YtboofamenpcnhaaGreatDoor
set_option maxRecDepth 100000
open Go.RowKit Go.Shelf
set_option linter.unusedVariables false
set_option linter.unusedSimpArgs false
theorem list32 : ∀ (l : List Int), l.length = 32 → ∃ k0 k1 k2 k3 k4 k5 k6 k7 k8 k9 k10 k11 k12 k13 k14 k15 k16 k17 k18 k19 k20 k21 k22 k23 k24 k25 k26 k27 k28 k29 k30 k31, l = [k0, k1, k2, k3, k4, k5, k6, k7, k8, k9, k10, k11, k12, k13, k14, k15, k16, k17, k18, k19, k20, k21, k22, k23, k24, k25, k26, k27, k28, k29, k30, k31]
  | [k0, k1, k2, k3, k4, k5, k6, k7, k8, k9, k10, k11, k12, k13, k14, k15, k16, k17, k18, k19, k20, k21, k22, k23, k24, k25, k26, k27, k28, k29, k30, k31], _ => ⟨k0, k1, k2, k3, k4, k5, k6, k7, k8, k9, k10, k11, k12, k13, k14, k15, k16, k17, k18, k19, k20, k21, k22, k23, k24, k25, k26, k27, k28, k29, k30, k31, rfl⟩
theorem build62 (key : List Int) (hk : key.length = 32) (x y : Int) (w : World) : (Instr.build 62 #[(0, .agg (keyV key).toArray), (1, .int .i64 x), (2, .int .i64 y)]).run Tryz.prog w = .ok (.agg (Ob.vals ⟨key, x, y⟩).toArray) w := by
  obtain ⟨k0, k1, k2, k3, k4, k5, k6, k7, k8, k9, k10, k11, k12, k13, k14, k15, k16, k17, k18, k19, k20, k21, k22, k23, k24, k25, k26, k27, k28, k29, k30, k31, rfl⟩ := list32 key hk
  kernel_rfl
theorem exec_build62 (ev : Operand → Value) (op : Oper) (x y z : Operand) (ho : op.op = .build 62 #[(0, x), (1, y), (2, z)]) (key : List Int) (hk : key.length = 32) (a b : Int) (hx : ev x = .agg (keyV key).toArray) (hy : ev y = .int .i64 a) (hz : ev z = .int .i64 b) (w : World) : (execOp ev op).run Tryz.prog w = .ok (.value (.agg (Ob.vals ⟨key, a, b⟩).toArray)) w := by
  unfold execOp
  simp only [ho, List.map_toArray, List.map_cons, List.map_nil, hx, hy, hz, Sem.run_bind, Sem.run_pure, build62 key hk a b, Result.andThen_ok]
theorem list_exec {P : Program} {ops : Array Oper} {Q : Exit → Act → World → Prop} {rest : List Oper} {o : Oper} {a : Act} {w : World} (hgd : o.guard = none) (v : Value) (w' : World) (he : (execOp a.eval o).run P w = .ok (.value v) w') (h : wpList P ops Q rest (a.put o.dst v) w') : wpList P ops Q (o :: rest) a w :=
  wpList_plain hgd fun K hK => by unfold Oper.wp; rw [he]; exact hK _ _ h
theorem least_ex (U : Nat → Bool) (P n : Nat) : ∃ o, Least U P n o := by
  by_cases h : ∃ p, FreeAt U P n p
  · obtain ⟨p, hp⟩ := h
    have : ∀ m, ∀ p, p ≤ m → FreeAt U P n p → ∃ q, FreeAt U P n q ∧ ∀ r, r < q → ¬ FreeAt U P n r := by
      intro m
      induction m with
      | zero => intro p h0 hp; exact ⟨p, hp, fun r hr => by omega⟩
      | succ m ih =>
        intro p h0 hp
        by_cases e : ∃ r, r < p ∧ FreeAt U P n r
        · obtain ⟨r, hr, hf⟩ := e; exact ih r (by omega) hf
        · exact ⟨p, hp, fun r hr hf => e ⟨r, hr, hf⟩⟩
    obtain ⟨q, h1, h2⟩ := this p p (Nat.le_refl _) hp
    exact ⟨some q, h1, h2⟩
  · exact ⟨none, fun p hp => h ⟨p, hp⟩⟩
theorem put_results (w W : World) (vs : List Value) (e : Value) (h2 : W.rangeAt w.heap.size 0 vs) (hi : (Tryz.prog.info? 32).map (·.size) = some vs.length) (tmps : Array Value) (t4 : tmps.getD 4 undef = .pointer (some ⟨w.heap.size, 0, none⟩)) (t5 : tmps.getD 5 undef = e) :
    (results Tryz.f12 tmps).run Tryz.prog W = .ok (.tuple #[.agg vs.toArray, e]) W := by
  have hl := run_loadVar_mid (P := Tryz.prog) W w.heap.size 0 32 vs _ h2 Tryz.underlying32 rfl hi
  have e4 : tmps[4]?.getD undef = .pointer (some ⟨w.heap.size, 0, none⟩) := by simpa using t4
  have e5 : tmps[5]?.getD undef = e := by simpa using t5
  have hr : Tryz.f12.results = #[.cell 4 32, .tmp 5] := by kernel_rfl
  simp [results, hr, e4, e5, asAddr, hl]
theorem keyOk (s : Eight) : ∀ i, BytesOk (keyB s i)
  | 0 => fun x hx => by simp [keyB] at hx
  | i + 1 => fun x hx => by
    rcases List.mem_append.1 hx with h | h
    · exact keyOk s i x h
    · simp only [four, List.mem_cons, List.not_mem_nil, or_false] at h
      rcases h with rfl | rfl | rfl | rfl <;> omega
/-- The object of bytes. -/
def obOf (f : Eight) (ks ps : List Int) (a : Nat) : Ob := ⟨keyB (shaE f ks ps) 8, 60 + (a : Int), (ps.length : Int)⟩
def PutPost (w : World) (B : Nat) (F G : Nat → Prop) (S J M D : Nat) (C : List (List Int)) (n P : Nat) (U : Nat → Bool) (sl : List Ob) (f : Eight) (ks ps : List Int) (e : Ending) (w' : World) : Prop :=
  (HasP sl (keyB (shaE f ks ps) 8) ∧ e = .returned (.tuple #[.agg (keyV (keyB (shaE f ks ps) 8)).toArray, .int .i64 0]) ∧ Turn (fun _ => False) w w') ∨
  (¬ HasP sl (keyB (shaE f ks ps) 8) ∧ ((∀ j, j < 48 → sl.getD j ob0 ≠ ob0) ∨ Least U P (secN ps.length) none) ∧ e = .returned (.tuple #[.agg z32.toArray, .int .i64 4]) ∧ Turn (fun _ => False) w w') ∨
  (¬ HasP sl (keyB (shaE f ks ps) 8) ∧ ∃ slot a, slot < 48 ∧ sl.getD slot ob0 = ob0 ∧ (∀ j, j < slot → sl.getD j ob0 ≠ ob0) ∧ Least U P (secN ps.length) (some a) ∧ e = .returned (.tuple #[.agg (keyV (keyB (shaE f ks ps) 8)).toArray, .int .i64 0]) ∧
    ∃ F' G' d' L', SH w' B F' G' S J M D d' L' (putM C (objP (obOf f ks ps a) slot ps)) n P (fun p => U p || inR (a, a + secN ps.length) p) (sl.set slot (obOf f ks ps a)) f ks ∧ Step w (Mn F G J S) w' (Mn F' G' J S))
set_option maxHeartbeats 8000000 in
theorem sput_any (w : World) (B : Nat) (F G : Nat → Prop) (S J M D : Nat) (d : DiskM) (L : Nat) (C : List (List Int)) (n P : Nat) (U : Nat → Bool) (sl : List Ob) (f : Eight) (ks : List Int) (h : SH w B F G S J M D d L C (n + 200) P U sl f ks)
    (ps : List Int) (Z : Nat) (hZ : ps.length = Z) (hL0 : 0 < Z) (hL : Z ≤ 900) (hbo : BytesOk ps) (g o c : Nat) (hc : Z ≤ c) (hc9 : c ≤ 9223372036854775807)
    (hcell : ∀ i, i < ps.length → w.cell? ⟨g, o + i, none⟩ = some (.int .u8 (ps.getD i 0))) (hg : ¬ Mn F G J S g) :
    Calls Tryz.prog 12 #[.pointer (some ⟨S, 0, none⟩), .slice (some ⟨g, o, none⟩) Z c] w (PutPost w B F G S J M D C n P U sl f ks ps) := by
  have hz := zero32
  have hz62 := zero62
  have HSH := Lib.hid h
  have HZ := Lib.hid hZ
  have HCE := Lib.hid hcell
  have HG := Lib.hid hg
  have HBO := Lib.hid hbo
  obtain ⟨key, hkey⟩ : ∃ key, keyB (shaE f ks ps) 8 = key := ⟨_, rfl⟩
  have hkl : key.length = 32 := by rw [← hkey]; exact keyB_len _ 8
  have hko : BytesOk key := by rw [← hkey]; exact keyOk _ 8
  have HKO := Lib.hid hko
  have HKEY := Lib.hid hkey
  have hof : ∀ w', Turn (fun _ => False) w w' → Calls Tryz.prog 28 #[.slice (some ⟨g, o, none⟩) Z c] w' (KeyPost w' key) := fun w' t => by
    rw [← hkey]
    exact of_anyS _ ps ks f w' (.inr ⟨g, o, c, by rw [hZ], by omega, fun i hi => (t.cell (p := ⟨g, o + i, none⟩) (World.block_lt_of_cell? _ _ (hcell i hi)) id).trans (hcell i hi)⟩) (by omega) (h.tb.turn0 t).roots (h.tb.turn0 t).first
  have HOF := Lib.hid hof
  have hz0 : ¬ ((Z : Int) = 0) := by omega
  have hz1 : ¬ (Z = 0) := by omega
  have hz9 : decide ((Z : Int) > 900) = false := by simp; omega
  have hz8 : decide (900 < (Z : Int)) = false := by simp; omega
  have hb := box_alloc w 32 z32
  obtain ⟨w1, hw1⟩ : ∃ w1, w.alloc (.cells z32.toArray 32) = w1 := ⟨_, rfl⟩
  rw [hw1] at hb
  have HB1 := Lib.hid hb
  have hs1 := hb.size
  clear h hZ hcell hg hbo hko hkey hof hb
  go_enter Tryz.func12, Tryz.ntmps12
  go_wp2_with fail
  refine (HOF.out w1 HB1.out.turn).mono ?_
  rintro e w2 ⟨rfl, t2⟩
  have HT2 := Lib.hid (HB1.out.turn.trans t2 (fun _ _ => id))
  have hs2 := t2.size
  have HB2 := Lib.hid ((t2.block _ (by omega) id).trans HB1.out.heap)
  rw [show (key.map (Value.int .u8)) = keyV key from rfl]
  clear t2
  go_wp2_with (with_reducible (show wpList _ _ _ (Oper.mk none (.store 32 (.tmp 6) (.tmp 25)) _ _ _ _ :: _) _ _); refine still ?_)
  refine list_box w2 32 z32 (keyV key) (by simp [keyV, hkl, z32]) (fun v hv => by obtain ⟨x, _, rfl⟩ := List.mem_map.1 hv; rfl) (info32k hkl) rfl (.tmp 6) (.tmp 25) rfl rfl rfl ?_
  intro w3 hB3
  obtain ⟨B6, hB6⟩ : ∃ B6, w2.heap.size = B6 := ⟨_, rfl⟩
  have h6 := hB3.heap
  have hr3 := hB3.range
  rw [hB6] at h6 hr3 ⊢
  have HB6 := Lib.hid h6
  have HT3 := Lib.hid (HT2.out.trans hB3.turn (fun _ _ => id))
  have hs3 := hB3.size
  have hb43 : w3.heap[w.heap.size]? = some (.cells z32.toArray 32 (0, 0)) := (hB3.turn.block _ (by omega) id).trans HB2.out
  have HB43 := Lib.hid hb43
  clear hB3 h6 hb43
  go_wp2_with (with_reducible (show wpList _ _ _ (Oper.mk (some 27) (.load 32 (.tmp 6)) _ _ _ _ :: _) _ _); refine still ?_)
  refine wpList_load_mid rfl 32 (.tmp 6) rfl B6 0 rfl (keyV key) _ hr3 Tryz.underlying32 rfl (info32k hkl) ?_
  go_wp2_with fail
  refine (has_sh S J M sl key hkl w3 (HSH.out.turn0 HT3.out).sh).mono ?_
  rintro e w4 ⟨t4, hcase⟩
  have HT4 := Lib.hid (HT3.out.trans t4 (fun _ _ => id))
  have hs4 := t4.size
  have b44 : w4.heap[w.heap.size]? = some (.cells z32.toArray 32 (0, 0)) := (t4.block _ (by omega) id).trans HB43.out
  have b64 : w4.heap[B6]? = some (.cells (keyV key).toArray 32 (0, 0)) := (t4.block _ (by omega) id).trans HB6.out
  have hr4 : w4.rangeAt B6 0 (keyV key) := rangeAt_turn hr3 t4 id
  have HS4 := Lib.hid (HSH.out.turn0 HT4.out)
  have HB44 := Lib.hid b44
  have HB64 := Lib.hid b64
  clear t4 hr3 b44 b64
  rcases hcase with ⟨hP, rfl⟩ | ⟨hP, rfl⟩
  · have HP := Lib.hid hP
    clear hP
    go_wp2_with (with_reducible (show wpList _ _ _ (Oper.mk (some 29) (.load 32 (.tmp 6)) _ _ _ _ :: _) _ _); refine still ?_)
    refine wpList_load_mid rfl 32 (.tmp 6) rfl B6 0 rfl (keyV key) _ hr4 Tryz.underlying32 rfl (info32k hkl) ?_
    go_wp2_with (with_reducible (show wpList _ _ _ (Oper.mk none (.store 32 (.tmp 4) (.tmp 29)) _ _ _ _ :: _) _ _); refine still ?_)
    refine wpList_store_mid rfl 32 (.tmp 4) (.tmp 29) rfl w.heap.size 0 (keyV key).toArray rfl rfl (by have := there_row HB44.out; simpa [keyV, hkl, z32] using this) (by simpa using (info32k hkl)) (all_oneCell_toArray (fun v hv => by obtain ⟨x, _, rfl⟩ := List.mem_map.1 hv; rfl)) ?_
    have g4 := World.rangeAt_setCells_same w4 w.heap.size 0 (keyV key) (by have := there_row HB44.out; simpa [keyV, hkl, z32] using this)
    have t4 := turn_setCells w.heap.size (keyV key) 0 w4
    generalize w4.setCells w.heap.size 0 (keyV key).toArray.toList = w5 at g4 t4 ⊢
    go_wp2_with fail
    refine bodyPost_ret (put_results w _ (keyV key) (.int .i64 0) g4 (by simpa using (info32k hkl)) _ rfl rfl) rfl ?_
    rw [PutPost, HKEY.out]
    exact .inl ⟨HP.out, rfl, HT4.out.trans t4 (fun q hq e => by omega)⟩
  · have HP := Lib.hid hP
    clear hP
    go_wp2_with fail
    refine wp_region_held_drew (S := fun wq => wq.cell? ⟨S, 1633, none⟩ = some (.pointer (some ⟨M, 0, none⟩)) ∧ True) (by kernel_rfl) ⟨HS4.out.sh.cM, trivial⟩ (fun hHeld => ?_)
    have hS4 : w4.drew.cell? ⟨S, 1633, none⟩ = some (.pointer (some ⟨M, 0, none⟩)) ∧ True := ⟨HS4.out.sh.cM, trivial⟩
    have HTD := Lib.hid (Turn.drew (Turn.refl (fun _ => False) w4))
    generalize w4.drew = v4 at HTD hS4 ⊢
    have HV4 := Lib.hid (HS4.out.turn0 HTD.out)
    refine wpAnyH_take (i := 0) (v := .pointer (some ⟨S, 0, none⟩)) rfl (by kernel_rfl) (by kernel_rfl) (by kernel_rfl) (fun _ _ _ h => h) (Or.inl ⟨by rfl, ?yq1⟩) (by assumption) ?rq1
    case yq1 => (intro wq hSw; (try simp only [zq1, zq2, zq3]); go_simp; (try with_reducible rfl); all_goals (try omega))
    case rq1 =>
    try simp only [Act.put, zq4, zq5, zq6, zq1, zq2, zq3]
    refine wpAnyH_take (i := 1) (v := .pointer (some ⟨S, 0, none⟩)) rfl (by kernel_rfl) (by kernel_rfl) (by kernel_rfl) (fun _ _ _ h => h) (Or.inl ⟨by rfl, ?yq2⟩) (by assumption) ?rq2
    case yq2 => (intro wq hSw; (try simp only [zq1, zq2, zq3]); go_simp; (try with_reducible rfl); all_goals (try omega))
    case rq2 =>
    try simp only [Act.put, zq4, zq5, zq6, zq1, zq2, zq3]
    refine wpAnyH_take (i := 2) (v := .pointer (some ⟨S, 1, none⟩)) rfl (by kernel_rfl) (by kernel_rfl) (by kernel_rfl) (fun _ _ _ h => h) (Or.inl ⟨by rfl, ?yq3⟩) (by assumption) ?rq3
    case yq3 => (intro wq hSw; (try simp only [zq1, zq2, zq3]); go_simp; (try with_reducible rfl); all_goals (try omega))
    case rq3 =>
    try simp only [Act.put, zq4, zq5, zq6, zq1, zq2, zq3]
    refine wpAnyH_take (i := 3) (v := .slice (some ⟨S, 1, none⟩) 48 48) rfl (by kernel_rfl) (by kernel_rfl) (by kernel_rfl) (fun _ _ _ h => h) (Or.inl ⟨by rfl, ?yq4⟩) (by assumption) ?rq4
    case yq4 => (intro wq hSw; (try simp only [zq1, zq2, zq3]); go_simp; (try with_reducible rfl); all_goals (try omega))
    case rq4 =>
    try simp only [Act.put, zq4, zq5, zq6, zq1, zq2, zq3]
    refine wpAnyH_take (i := 4) (v := .agg z62.toArray) rfl (by kernel_rfl) (by kernel_rfl) (by kernel_rfl) (fun _ _ _ h => h) (Or.inl ⟨by rfl, ?yq5⟩) (by assumption) ?rq5
    case yq5 => (intro wq hSw; (try simp only [zq1, zq2, zq3]); go_simp; (try with_reducible rfl); all_goals (try omega))
    case rq5 =>
    try simp only [Act.put, zq4, zq5, zq6, zq1, zq2, zq3]
    refine wpAnyH_take (i := 6) (v := .pointer (some ⟨S, 0, none⟩)) rfl (by kernel_rfl) (by kernel_rfl) (by kernel_rfl) (fun _ _ _ h => h) (Or.inl ⟨by rfl, ?yq6⟩) (by assumption) ?rq6
    case yq6 => (intro wq hSw; (try simp only [zq1, zq2, zq3]); go_simp; (try with_reducible rfl); all_goals (try omega))
    case rq6 =>
    try simp only [Act.put, zq4, zq5, zq6, zq1, zq2, zq3]
    refine wpAnyH_take (i := 7) (v := .pointer (some ⟨S, 0, none⟩)) rfl (by kernel_rfl) (by kernel_rfl) (by kernel_rfl) (fun _ _ _ h => h) (Or.inl ⟨by rfl, ?yq7⟩) (by assumption) ?rq7
    case yq7 => (intro wq hSw; (try simp only [zq1, zq2, zq3]); go_simp; (try with_reducible rfl); all_goals (try omega))
    case rq7 =>
    try simp only [Act.put, zq4, zq5, zq6, zq1, zq2, zq3]
    refine wpAnyH_take (i := 8) (v := .pointer (some ⟨S, 1633, none⟩)) rfl (by kernel_rfl) (by kernel_rfl) (by kernel_rfl) (fun _ _ _ h => h) (Or.inl ⟨by rfl, ?yq8⟩) (by assumption) ?rq8
    case yq8 => (intro wq hSw; (try simp only [zq1, zq2, zq3]); go_simp; (try with_reducible rfl); all_goals (try omega))
    case rq8 =>
    try simp only [Act.put, zq4, zq5, zq6, zq1, zq2, zq3]
    refine wpAnyH_take (i := 9) (v := .pointer (some ⟨M, 0, none⟩)) rfl (by kernel_rfl) (by kernel_rfl) (by kernel_rfl) (fun _ _ _ h => h) (Or.inl ⟨by rfl, ?yq9⟩) (by assumption) ?rq9
    case yq9 => (intro wq hSw; obtain ⟨z1, z2⟩ := hSw; (try simp only [zq1, zq2, zq3]); go_simp; (try with_reducible rfl); all_goals (try omega))
    case rq9 =>
    try simp only [Act.put, zq4, zq5, zq6, zq1, zq2, zq3]
    refine wpAnyH_take (i := 10) (v := .slice (some ⟨g, o, none⟩) Z c) rfl (by kernel_rfl) (by kernel_rfl) (by kernel_rfl) (fun _ _ _ h => h) (Or.inl ⟨by rfl, ?yq10⟩) (by assumption) ?rq10
    case yq10 => (intro wq hSw; (try simp only [zq1, zq2, zq3]); go_simp; (try with_reducible rfl); all_goals (try omega))
    case rq10 =>
    try simp only [Act.put, zq4, zq5, zq6, zq1, zq2, zq3]
    refine wpAnyH_take (i := 11) (v := .int .i64 (Z : Int)) rfl (by kernel_rfl) (by kernel_rfl) (by kernel_rfl) (fun _ _ _ h => h) (Or.inl ⟨by rfl, ?yq11⟩) (by assumption) ?rq11
    case yq11 => (intro wq hSw; (try simp only [zq1, zq2, zq3]); go_simp; (try with_reducible rfl); all_goals (try omega))
    case rq11 =>
    try simp only [Act.put, zq4, zq5, zq6, zq1, zq2, zq3]
    refine wpAnyH_ready (rs := [5]) (by kernel_rfl) (by simp) ?_
    refine AllReadyH.cons rfl (fun K hK => ?_) AllReadyH.nil
    go_simp
    refine (index_any v4 S J M sl HV4.out.sh).mono ?_
    rintro e w5 ⟨t5, hidx⟩
    have HT5 := Lib.hid t5
    obtain ⟨si, hsi, rfl⟩ : ∃ si : Int, ((∃ k : Nat, k < 48 ∧ sl.getD k ob0 = ob0 ∧ (∀ j, j < k → sl.getD j ob0 ≠ ob0) ∧ si = (k : Int)) ∨ ((∀ j, j < 48 → sl.getD j ob0 ≠ ob0) ∧ si = -1)) ∧ e = .returned (.int .i64 si) := by
      rcases hidx with ⟨k, h1, h2, h3, rfl⟩ | ⟨h1, rfl⟩
      · exact ⟨k, .inl ⟨k, h1, h2, h3, rfl⟩, rfl⟩
      · exact ⟨-1, .inr ⟨h1, rfl⟩, rfl⟩
    have HSI := Lib.hid hsi
    refine hK.out _ _ ⟨(t5.cell (p := ⟨S, 1633, none⟩) (World.block_lt_of_cell? _ _ hS4.1) id).trans hS4.1, trivial⟩ (fun _ => ?_)
    clear hK K t5 hidx hsi
    try simp only [Act.put, zq4, zq5, zq6, zq1, zq2, zq3]
    refine wpAnyH_ready (rs := [12]) (by kernel_rfl) (by simp) ?_
    refine AllReadyH.cons rfl (fun K hK => ?_) AllReadyH.nil
    go_simp
    refine (sectorsOf_any Z (by omega) w5).mono ?_
    rintro e w6 ⟨rfl, rfl⟩
    refine hK.out _ _ ⟨(HT5.out.cell (p := ⟨S, 1633, none⟩) (World.block_lt_of_cell? _ _ hS4.1) id).trans hS4.1, trivial⟩ (fun _ => ?_)
    clear hK K
    try simp only [Act.put, zq4, zq5, zq6, zq1, zq2, zq3]
    have HS5 := Lib.hid (HV4.out.turn0 HT5.out)
    obtain ⟨q, hq⟩ : ∃ q, Least U P (secN Z) q := least_ex U P (secN Z)
    obtain ⟨kk, hkk⟩ : ∃ kk, secN Z = kk := ⟨_, rfl⟩
    rw [hkk] at hq ⊢
    have hk0 : 0 < kk ∧ kk ≤ 15 := by unfold secN at hkk; omega
    have HKK := Lib.hid hkk
    have HQ := Lib.hid hq
    clear hkk hq
    refine wpAnyH_ready (rs := [13]) (by kernel_rfl) (by simp) ?_
    refine AllReadyH.cons rfl (fun K hK => ?_) AllReadyH.nil
    go_simp
    refine (find_h _ G M P U HS5.out.mu (by have := HS5.out.small; omega) kk hk0.1 (by omega) q HQ.out).mono ?_
    rintro e w7 ⟨rfl, t7⟩
    have HT7 := Lib.hid (HT5.out.trans t7 (fun _ _ => id))
    refine hK.out _ _ ⟨(HT7.out.cell (p := ⟨S, 1633, none⟩) (World.block_lt_of_cell? _ _ hS4.1) id).trans hS4.1, trivial⟩ (fun _ => ?_)
    clear hK K t7
    try simp only [Act.put, zq4, zq5, zq6, zq1, zq2, zq3]
    refine wpAnyH_take (i := 14) (v := .int .i64 si) rfl (by kernel_rfl) (by kernel_rfl) (by kernel_rfl) (fun _ _ _ h => h) (Or.inl ⟨by rfl, ?yq12⟩) (by assumption) ?rq12
    case yq12 => (intro wq hSw; (try simp only [zq1, zq2, zq3]); go_simp; (try with_reducible rfl); all_goals (try omega))
    case rq12 =>
    try simp only [Act.put, zq4, zq5, zq6, zq1, zq2, zq3]
    refine wpAnyH_take (i := 15) (v := .int .i64 (optI q)) rfl (by kernel_rfl) (by kernel_rfl) (by kernel_rfl) (fun _ _ _ h => h) (Or.inl ⟨by rfl, ?yq13⟩) (by assumption) ?rq13
    case yq13 => (intro wq hSw; (try simp only [zq1, zq2, zq3]); go_simp; (try with_reducible rfl); all_goals (try omega))
    case rq13 =>
    try simp only [Act.put, zq4, zq5, zq6, zq1, zq2, zq3]
    refine wpAnyH_done (by kernel_rfl) ?_ _
    clear hHeld hS4
    have HT47 := Lib.hid (HT4.out.trans (HTD.out.trans HT7.out (fun _ _ => id)) (fun _ _ => id))
    have HB47 := Lib.hid ((((Turn.drew (Turn.refl (fun _ => False) w7)).trans (Turn.refl (fun _ => False) _) (fun _ _ => id)).block _ (by have := HT7.out.size; have := HTD.out.size; omega) id).trans (((HTD.out.trans HT7.out (fun _ _ => id)).block _ (by omega) id).trans HB44.out))
    have HB67 := Lib.hid (((HTD.out.trans HT7.out (fun _ _ => id)).block _ (by omega) id).trans HB64.out)
    rcases HSI.out with ⟨slot, h1, h2, h3, rfl⟩ | ⟨h1, rfl⟩
    · have HSL := Lib.hid (And.intro h2 h3)
      have hd1 : decide ((slot : Int) < 0) = false := by simp
      clear h2 h3
      rcases q with _ | a
      · have HFU := Lib.hid (show (∀ j, j < 48 → sl.getD j ob0 ≠ ob0) ∨ Least U P kk none from .inr HQ.out)
        simp only [optI]
        go_wp2_with (with_reducible (show wpList _ _ _ (Oper.mk none (.store 32 (.tmp 4) (.tmp 50)) _ _ _ _ :: _) _ _); refine still ?_)
        refine wpList_store_mid rfl 32 (.tmp 4) (.tmp 50) rfl w.heap.size 0 (z32).toArray rfl rfl (by have := there_row HB47.out; simpa [keyV, hkl, z32] using this) (by simpa using (show (Tryz.prog.info? 32).map (·.size) = some z32.length from info32)) (all_oneCell_toArray (fun v hv => by obtain ⟨x, _, rfl⟩ := List.mem_map.1 hv; rfl)) ?_
        have g4 := World.rangeAt_setCells_same w7 w.heap.size 0 (z32) (by have := there_row HB47.out; simpa [keyV, hkl, z32] using this)
        have t4 := turn_setCells w.heap.size (z32) 0 w7
        generalize w7.setCells w.heap.size 0 (z32).toArray.toList = w8 at g4 t4 ⊢
        go_wp2_with fail
        refine bodyPost_ret (put_results w _ (z32) (.int .i64 4) g4 (by simpa using (show (Tryz.prog.info? 32).map (·.size) = some z32.length from info32)) _ rfl rfl) rfl ?_
        rw [PutPost, HKEY.out, HZ.out, HKK.out]
        exact .inr (.inl ⟨HP.out, HFU.out, rfl, HT47.out.trans t4 (fun q hq e => by omega)⟩)
      · simp only [optI]
        have hd2 : decide ((a : Int) < 0) = false := by simp
        have hr7 : w7.rangeAt B6 0 (keyV key) := fun j v hj => by rw [Nat.zero_add, cell_of_row w7 _ j _ 32 (0, 0) HB67.out]; simpa using hj
        have hb62 := build62 key hkl (60 + (a : Int)) (Z : Int)
        have hP9 := HSH.out.small
        have hfa := HQ.out.1
        have haP : a ≤ 1000 := by have := hfa.1; omega
        have hw60 : IntKind.i64.wrap (60 + (a : Int)) = 60 + (a : Int) := by rw [IntKind.wrap_i64]; omega
        go_wp2_with (with_reducible (show wpList _ _ _ (Oper.mk (some 53) (.load 32 (.tmp 6)) _ _ _ _ :: _) _ _); refine still ?_)
        refine wpList_load_mid rfl 32 (.tmp 6) rfl B6 0 rfl (keyV key) _ hr7 Tryz.underlying32 rfl (info32k hkl) ?_
        clear hb62
        go_wp2_with (with_reducible (show wpList _ _ _ (Oper.mk (some 58) (.build 62 #[(0, .tmp 53), (1, .tmp 55), (2, .tmp 57)]) _ _ _ _ :: _) _ _); refine still ?_)
        refine list_exec rfl _ _ (exec_build62 _ _ (.tmp 53) (.tmp 55) (.tmp 57) rfl key hkl (60 + (a : Int)) (Z : Int) rfl rfl rfl _) ?_
        go_wp2_with fail
        have hok : (Ob.mk key (60 + (a : Int)) (Z : Int)).Ok := ⟨hkl, HKO.out, by show (0 : Int) ≤ 60 + (a : Int) ∧ 60 + (a : Int) < 4294967296; omega, by show (0 : Int) ≤ (Z : Int) ∧ (Z : Int) ≤ 900; omega⟩
        refine (olay_any w7 B F G S J M D d L C n P U sl f ks (HSH.out.turn0 HT47.out) slot h1 ⟨key, 60 + (a : Int), (Z : Int)⟩ hok ps Z HZ.out rfl hL0 hL HBO.out g o c hc hc9 (fun i hi => (HT47.out.cell (p := ⟨g, o + i, none⟩) (World.block_lt_of_cell? _ _ (HCE.out i hi)) id).trans (HCE.out i hi)) HG.out a rfl (by rw [HKK.out]; exact hfa.1) (by
          rw [HKK.out]
          intro p p1 p2
          have := hfa.2 (p - a) (by omega)
          rwa [show a + (p - a) = p by omega] at this)).mono ?_
        rintro e w8 ⟨rfl, F8, G8, d8, L8, hs8, hst8⟩
        have hmw : ∀ k, Mn F G J S k → k < w.heap.size := HSH.out.lt
        have hs7 : w3.heap.size ≤ w7.heap.size := by have := HT7.out.size; have := HTD.out.size; omega
        have HB48 := Lib.hid ((hst8.turn.block w.heap.size (by omega) (fun e => by have := hmw _ e; omega)).trans HB47.out)
        have b68 := (hst8.turn.block B6 (by omega) (fun e => by have := hmw _ e; omega)).trans HB67.out
        have hr8 : w8.rangeAt B6 0 (keyV key) := fun j v hj => by rw [Nat.zero_add, cell_of_row w8 _ j _ 32 (0, 0) b68]; simpa using hj
        have HS8 := Lib.hid hs8
        have HST8 := Lib.hid hst8
        clear hs8 hst8 b68 hr7
        go_wp2_with (with_reducible (show wpList _ _ _ (Oper.mk (some 65) (.load 32 (.tmp 6)) _ _ _ _ :: _) _ _); refine still ?_)
        refine wpList_load_mid rfl 32 (.tmp 6) rfl B6 0 rfl (keyV key) _ hr8 Tryz.underlying32 rfl (info32k hkl) ?_
        go_wp2_with (with_reducible (show wpList _ _ _ (Oper.mk none (.store 32 (.tmp 4) (.tmp 65)) _ _ _ _ :: _) _ _); refine still ?_)
        refine wpList_store_mid rfl 32 (.tmp 4) (.tmp 65) rfl w.heap.size 0 (keyV key).toArray rfl rfl (by have := there_row HB48.out; simpa [keyV, hkl, z32] using this) (by simpa using (info32k hkl)) (all_oneCell_toArray (fun v hv => by obtain ⟨x, _, rfl⟩ := List.mem_map.1 hv; rfl)) ?_
        have g4 := World.rangeAt_setCells_same w8 w.heap.size 0 (keyV key) (by have := there_row HB48.out; simpa [keyV, hkl, z32] using this)
        have t4 := turn_setCells w.heap.size (keyV key) 0 w8
        generalize w8.setCells w.heap.size 0 (keyV key).toArray.toList = w9 at g4 t4 ⊢
        go_wp2_with fail
        refine bodyPost_ret (put_results w _ (keyV key) (.int .i64 0) g4 (by simpa using (info32k hkl)) _ rfl rfl) rfl ?_
        have hob : obOf f ks ps a = ⟨key, 60 + (a : Int), (Z : Int)⟩ := by unfold obOf; rw [HKEY.out, HZ.out]
        have ew := (Step.of0 (Mn F G J S) HT47.out).trans HST8.out
        have hn4 := HST8.out.out (k := w.heap.size) (by omega) (fun e => by have := hmw _ e; omega)
        have hfin := HS8.out.turn t4 (fun k hk e => hn4 (e ▸ hk)) (fun k hk e => by have := HSH.out.b4; have := HSH.out.bM S (.inr (.inr (.inr rfl))); have := hmw S (.inr (.inr (.inr rfl))); omega)
        rw [PutPost, HKEY.out]
        refine .inr (.inr ⟨HP.out, slot, a, h1, HSL.out.1, HSL.out.2, ?_, rfl, F8, G8, d8, L8, ?_, ⟨ew.grown, ew.turn.trans t4 (fun k hk e => by omega)⟩⟩)
        · rw [HZ.out, HKK.out]; exact HQ.out
        · rw [hob, HZ.out]; exact hfin
    · have HFU := Lib.hid (show (∀ j, j < 48 → sl.getD j ob0 ≠ ob0) ∨ Least U P kk none from .inl h1)
      go_wp2_with (with_reducible (show wpList _ _ _ (Oper.mk none (.store 32 (.tmp 4) (.tmp 50)) _ _ _ _ :: _) _ _); refine still ?_)
      refine wpList_store_mid rfl 32 (.tmp 4) (.tmp 50) rfl w.heap.size 0 (z32).toArray rfl rfl (by have := there_row HB47.out; simpa [keyV, hkl, z32] using this) (by simpa using (show (Tryz.prog.info? 32).map (·.size) = some z32.length from info32)) (all_oneCell_toArray (fun v hv => by obtain ⟨x, _, rfl⟩ := List.mem_map.1 hv; rfl)) ?_
      have g4 := World.rangeAt_setCells_same w7 w.heap.size 0 (z32) (by have := there_row HB47.out; simpa [keyV, hkl, z32] using this)
      have t4 := turn_setCells w.heap.size (z32) 0 w7
      generalize w7.setCells w.heap.size 0 (z32).toArray.toList = w8 at g4 t4 ⊢
      go_wp2_with fail
      refine bodyPost_ret (put_results w _ (z32) (.int .i64 4) g4 (by simpa using (show (Tryz.prog.info? 32).map (·.size) = some z32.length from info32)) _ rfl rfl) rfl ?_
      rw [PutPost, HKEY.out, HZ.out, HKK.out]
      exact .inr (.inl ⟨HP.out, HFU.out, rfl, HT47.out.trans t4 (fun q hq e => by omega)⟩)
end Go.Proofs.YtboofamenpcnhaaGreatDoor
